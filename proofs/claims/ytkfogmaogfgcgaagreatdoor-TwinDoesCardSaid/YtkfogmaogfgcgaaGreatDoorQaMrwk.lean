/- What Week of the reference of layer 19 comes to. -/
import Derived.Test.YtkfogmaogfgcgaaGreatDoorQaHrwk
namespace Go.Proofs.YtkfogmaogfgcgaaGreatDoor.Mr
set_option linter.unusedSimpArgs false
set_option linter.unusedVariables false
open Go.RowKit Go.Maps Bn Bx Cp Am Fp Ap Ar Cm Em Ep Rk Hp Hr

set_option maxHeartbeats 8000000

def cnt (s b : Int) (k : Nat) : Int := s - k + (if 0 < b ∧ b < (k : Int) + 1 then 1 else 0)
theorem cnt_zero (s b : Int) : cnt s b 0 = s := by
  unfold cnt
  by_cases h : 0 < b ∧ b < ((0 : Nat) : Int) + 1
  · omega
  · rw [if_neg h]; omega
theorem cnt_step (s b r : Int) (k : Nat) (s0 : 0 ≤ s) (s1 : s ≤ 60) (hr : (0 < b ∧ b ≤ s + 1 ∧ r = s + 2) ∨ (¬ (0 < b ∧ b ≤ s + 1) ∧ r = s + 1)) (h : (k : Int) + 1 ≤ r) :
    0 ≤ cnt s b k ∧ cnt s b k ≤ 60 ∧ (((k : Int) + 1 = b ∧ (k : Int) + 1 < r ∧ cnt s b (k + 1) = cnt s b k) ∨ ((k : Int) + 1 ≠ b ∧ (k : Int) + 1 < r ∧ cnt s b k ≠ 0 ∧ cnt s b (k + 1) = cnt s b k - 1) ∨ ((k : Int) + 1 ≠ b ∧ (k : Int) + 1 = r ∧ cnt s b k = 0)) := by
  unfold cnt
  have e : ((k + 1 : Nat) : Int) = (k : Int) + 1 := by omega
  rw [e]
  by_cases h1 : 0 < b ∧ b < (k : Int) + 1
  · rw [if_pos h1]
    by_cases h2 : 0 < b ∧ b < (k : Int) + 1 + 1
    · rw [if_pos h2]; omega
    · rw [if_neg h2]; omega
  · rw [if_neg h1]
    by_cases h2 : 0 < b ∧ b < (k : Int) + 1 + 1
    · rw [if_pos h2]; omega
    · rw [if_neg h2]; omega

set_option maxRecDepth 100000 in
theorem rserved_any (c : CalZ) (y : Int) (r : Bool) (w : World) (hr : (r = true ∧ Served c y) ∨ (r = false ∧ ¬ Served c y)) :
    Calls Tryz.prog 61 #[.agg #[.string c.nm, .int .i64 c.k, .int .i64 c.d, .int .i64 c.m, .int .i64 c.s, .int .i64 c.sh, .int .i64 c.p0, .int .i64 c.p1, .int .i64 c.p2, .int .i64 c.cy, .int .i64 c.ex, .int .i64 c.fi, .int .i64 c.la, .int .i64 c.po], .int .i64 y] w fun e w' => e = .returned (.bool r) ∧ Below w.heap.size w w' := by
  have C := CalIn.new w c 24
  have B := balloc (Below.refl _ w) (.cells #[.string c.nm, .int .i64 c.k, .int .i64 c.d, .int .i64 c.m, .int .i64 c.s, .int .i64 c.sh, .int .i64 c.p0, .int .i64 c.p1, .int .i64 c.p2, .int .i64 c.cy, .int .i64 c.ex, .int .i64 c.fi, .int .i64 c.la, .int .i64 c.po] 24)
  have O : (decide (c.fi ≤ y) = false ∧ r = false) ∨ (decide (c.fi ≤ y) = true ∧ decide (y ≤ c.la) = false ∧ r = false) ∨ (decide (c.fi ≤ y) = true ∧ decide (y ≤ c.la) = true ∧ r = true) := by
    rcases hr with ⟨rfl, h⟩ | ⟨rfl, h⟩
    · exact .inr (.inr ⟨decide_eq_true h.1, decide_eq_true h.2, rfl⟩)
    · by_cases h1 : c.fi ≤ y
      · exact .inr (.inl ⟨decide_eq_true h1, decide_eq_false (fun k => h ⟨h1, k⟩), rfl⟩)
      · exact .inl ⟨decide_eq_false h1, rfl⟩
  clear hr
  rcases O with ⟨d0, rfl⟩ | ⟨d0, d1, rfl⟩ | ⟨d0, d1, rfl⟩
  all_goals
    go_enter Tryz.func61, Tryz.ntmps61
    go_upto_region 1 with fail
    generalize w.alloc (.cells #[.string c.nm, .int .i64 c.k, .int .i64 c.d, .int .i64 c.m, .int .i64 c.s, .int .i64 c.sh, .int .i64 c.p0, .int .i64 c.p1, .int .i64 c.p2, .int .i64 c.cy, .int .i64 c.ex, .int .i64 c.fi, .int .i64 c.la, .int .i64 c.po] 24) = W0 at *
    obtain ⟨_, c0, c1, c2, c3, c4, c5, c6, c7, c8, c9, c10, c11, c12, c13⟩ := id C
    go_wp2
    go_ret
    exact ⟨by simp, B⟩

set_option maxRecDepth 100000 in
theorem rweek_1 (c : CalZ) (y t x : Int) (w : World) (ok : CalOk c) (k6 : c.k ≠ 6) (sy : Served c y) (st : Served c t) (x0 : 1 ≤ x) (x1 : x ≤ nweeks c y) (po : c.po = 1) (K : ChkSays c) (hm : c.nm.size ≤ maxLen) (T : FTab w) :
    Calls Tryz.prog 63 #[.agg #[.string c.nm, .int .i64 c.k, .int .i64 c.d, .int .i64 c.m, .int .i64 c.s, .int .i64 c.sh, .int .i64 c.p0, .int .i64 c.p1, .int .i64 c.p2, .int .i64 c.cy, .int .i64 c.ex, .int .i64 c.fi, .int .i64 c.la, .int .i64 c.po], .int .i64 y, .int .i64 t, .int .i64 x] w fun e w' => e = .returned (.tuple #[.int .i64 x, .int .i64 0]) ∧ Below w.heap.size w w' := by
  have C := CalIn.new w c 24
  have B := balloc (Below.refl _ w) (.cells #[.string c.nm, .int .i64 c.k, .int .i64 c.d, .int .i64 c.m, .int .i64 c.s, .int .i64 c.sh, .int .i64 c.p0, .int .i64 c.p1, .int .i64 c.p2, .int .i64 c.cy, .int .i64 c.ex, .int .i64 c.fi, .int .i64 c.la, .int .i64 c.po] 24)
  replace T := T.alloc (.cells #[.string c.nm, .int .i64 c.k, .int .i64 c.d, .int .i64 c.m, .int .i64 c.s, .int .i64 c.sh, .int .i64 c.p0, .int .i64 c.p1, .int .i64 c.p2, .int .i64 c.cy, .int .i64 c.ex, .int .i64 c.fi, .int .i64 c.la, .int .i64 c.po] 24)
  have ck := fun w => K 0 w (.inl ⟨ok, rfl⟩)
  have cy := fun w => rserved_any c y true w (.inl ⟨rfl, sy⟩)
  have ct := fun w => rserved_any c t true w (.inl ⟨rfl, st⟩)
  have by' := served_told ok sy
  have bt := served_told ok st
  have d6 : (c.k == 6) = false := beq_eq_false_iff_ne.2 k6
  obtain ⟨n, hn⟩ : ∃ n, n = nweeks c y := ⟨_, rfl⟩
  obtain ⟨m, hm'⟩ : ∃ m, m = nweeks c t := ⟨_, rfl⟩
  have nb := (nweeks_01 ok.1 k6 (y := y) (by omega) (by omega)).1
  have mb := (nweeks_01 ok.1 k6 (y := t) (by omega) (by omega)).1
  have cn := fun w => rWeeks_any c y n 0 w (.inl ⟨ok, k6, by omega, by omega, hn, rfl⟩) K
  have cm := fun w => rWeeks_any c t m 0 w (.inl ⟨ok, k6, by omega, by omega, hm', rfl⟩) K
  rw [← hn] at x1 nb
  rw [← hm'] at mb
  have x2 : x ≤ 60 := by omega
  have p1 : (c.po == 1) = true := beq_iff_eq.2 po
  clear ok k6 sy st hn hm' by' bt po
  go_enter Tryz.func63, Tryz.ntmps63
  go_upto_region 1 with fail
  generalize w.alloc (.cells #[.string c.nm, .int .i64 c.k, .int .i64 c.d, .int .i64 c.m, .int .i64 c.s, .int .i64 c.sh, .int .i64 c.p0, .int .i64 c.p1, .int .i64 c.p2, .int .i64 c.cy, .int .i64 c.ex, .int .i64 c.fi, .int .i64 c.la, .int .i64 c.po] 24) = W0 at *
  obtain ⟨_, c0, c1, c2, c3, c4, c5, c6, c7, c8, c9, c10, c11, c12, c13⟩ := id C
  go_wp2_with fail
  refine (ck _).mono ?_
  rintro e w1 ⟨rfl, hb⟩
  replace C := C.kept hb
  replace B := bthen B hb
  replace T := T.kept hb
  clear hb c0 c1 c2 c3 c4 c5 c6 c7 c8 c9 c10 c11 c12 c13 
  obtain ⟨_, c0, c1, c2, c3, c4, c5, c6, c7, c8, c9, c10, c11, c12, c13⟩ := id C
  go_wp2_with fail
  refine (cy _).mono ?_
  rintro e w2 ⟨rfl, hb⟩
  replace C := C.kept hb
  replace B := bthen B hb
  replace T := T.kept hb
  clear hb c0 c1 c2 c3 c4 c5 c6 c7 c8 c9 c10 c11 c12 c13 
  obtain ⟨_, c0, c1, c2, c3, c4, c5, c6, c7, c8, c9, c10, c11, c12, c13⟩ := id C
  go_wp2_with fail
  refine (ct _).mono ?_
  rintro e w3 ⟨rfl, hb⟩
  replace C := C.kept hb
  replace B := bthen B hb
  replace T := T.kept hb
  clear hb c0 c1 c2 c3 c4 c5 c6 c7 c8 c9 c10 c11 c12 c13 
  obtain ⟨_, c0, c1, c2, c3, c4, c5, c6, c7, c8, c9, c10, c11, c12, c13⟩ := id C
  go_wp2_with fail
  refine (cn _).mono ?_
  rintro e w4 ⟨rfl, hb⟩
  replace C := C.kept hb
  replace B := bthen B hb
  replace T := T.kept hb
  clear hb c0 c1 c2 c3 c4 c5 c6 c7 c8 c9 c10 c11 c12 c13 
  obtain ⟨_, c0, c1, c2, c3, c4, c5, c6, c7, c8, c9, c10, c11, c12, c13⟩ := id C
  go_wp2_with fail
  refine (cm _).mono ?_
  rintro e w5 ⟨rfl, hb⟩
  replace C := C.kept hb
  replace B := bthen B hb
  replace T := T.kept hb
  clear hb c0 c1 c2 c3 c4 c5 c6 c7 c8 c9 c10 c11 c12 c13 
  obtain ⟨_, c0, c1, c2, c3, c4, c5, c6, c7, c8, c9, c10, c11, c12, c13⟩ := id C
  go_wp2
  go_ret2
  exact ⟨by simp, B⟩

set_option maxRecDepth 100000 in
theorem rweek_2 (c : CalZ) (y t x v : Int) (hv : v = x + nweeks c t - nweeks c y) (w : World) (ok : CalOk c) (k6 : c.k ≠ 6) (sy : Served c y) (st : Served c t) (x0 : 1 ≤ x) (x1 : x ≤ nweeks c y) (po : c.po = 2) (K : ChkSays c) (hm : c.nm.size ≤ maxLen) (T : FTab w) :
    Calls Tryz.prog 63 #[.agg #[.string c.nm, .int .i64 c.k, .int .i64 c.d, .int .i64 c.m, .int .i64 c.s, .int .i64 c.sh, .int .i64 c.p0, .int .i64 c.p1, .int .i64 c.p2, .int .i64 c.cy, .int .i64 c.ex, .int .i64 c.fi, .int .i64 c.la, .int .i64 c.po], .int .i64 y, .int .i64 t, .int .i64 x] w fun e w' => e = .returned (.tuple #[.int .i64 v, .int .i64 0]) ∧ Below w.heap.size w w' := by
  have C := CalIn.new w c 24
  have B := balloc (Below.refl _ w) (.cells #[.string c.nm, .int .i64 c.k, .int .i64 c.d, .int .i64 c.m, .int .i64 c.s, .int .i64 c.sh, .int .i64 c.p0, .int .i64 c.p1, .int .i64 c.p2, .int .i64 c.cy, .int .i64 c.ex, .int .i64 c.fi, .int .i64 c.la, .int .i64 c.po] 24)
  replace T := T.alloc (.cells #[.string c.nm, .int .i64 c.k, .int .i64 c.d, .int .i64 c.m, .int .i64 c.s, .int .i64 c.sh, .int .i64 c.p0, .int .i64 c.p1, .int .i64 c.p2, .int .i64 c.cy, .int .i64 c.ex, .int .i64 c.fi, .int .i64 c.la, .int .i64 c.po] 24)
  have ck := fun w => K 0 w (.inl ⟨ok, rfl⟩)
  have cy := fun w => rserved_any c y true w (.inl ⟨rfl, sy⟩)
  have ct := fun w => rserved_any c t true w (.inl ⟨rfl, st⟩)
  have by' := served_told ok sy
  have bt := served_told ok st
  have d6 : (c.k == 6) = false := beq_eq_false_iff_ne.2 k6
  obtain ⟨n, hn⟩ : ∃ n, n = nweeks c y := ⟨_, rfl⟩
  obtain ⟨m, hm'⟩ : ∃ m, m = nweeks c t := ⟨_, rfl⟩
  have nb := (nweeks_01 ok.1 k6 (y := y) (by omega) (by omega)).1
  have mb := (nweeks_01 ok.1 k6 (y := t) (by omega) (by omega)).1
  have cn := fun w => rWeeks_any c y n 0 w (.inl ⟨ok, k6, by omega, by omega, hn, rfl⟩) K
  have cm := fun w => rWeeks_any c t m 0 w (.inl ⟨ok, k6, by omega, by omega, hm', rfl⟩) K
  rw [← hn] at x1 nb
  rw [← hm'] at mb
  have x2 : x ≤ 60 := by omega
  have p1 : (c.po == 1) = false := beq_eq_false_iff_ne.2 (by omega)
  have p2 : (c.po == 2) = true := beq_iff_eq.2 po
  rw [← hn, ← hm'] at hv
  subst hv
  clear ok k6 sy st hn hm' by' bt po
  go_enter Tryz.func63, Tryz.ntmps63
  go_upto_region 1 with fail
  generalize w.alloc (.cells #[.string c.nm, .int .i64 c.k, .int .i64 c.d, .int .i64 c.m, .int .i64 c.s, .int .i64 c.sh, .int .i64 c.p0, .int .i64 c.p1, .int .i64 c.p2, .int .i64 c.cy, .int .i64 c.ex, .int .i64 c.fi, .int .i64 c.la, .int .i64 c.po] 24) = W0 at *
  obtain ⟨_, c0, c1, c2, c3, c4, c5, c6, c7, c8, c9, c10, c11, c12, c13⟩ := id C
  go_wp2_with fail
  refine (ck _).mono ?_
  rintro e w1 ⟨rfl, hb⟩
  replace C := C.kept hb
  replace B := bthen B hb
  replace T := T.kept hb
  clear hb c0 c1 c2 c3 c4 c5 c6 c7 c8 c9 c10 c11 c12 c13 
  obtain ⟨_, c0, c1, c2, c3, c4, c5, c6, c7, c8, c9, c10, c11, c12, c13⟩ := id C
  go_wp2_with fail
  refine (cy _).mono ?_
  rintro e w2 ⟨rfl, hb⟩
  replace C := C.kept hb
  replace B := bthen B hb
  replace T := T.kept hb
  clear hb c0 c1 c2 c3 c4 c5 c6 c7 c8 c9 c10 c11 c12 c13 
  obtain ⟨_, c0, c1, c2, c3, c4, c5, c6, c7, c8, c9, c10, c11, c12, c13⟩ := id C
  go_wp2_with fail
  refine (ct _).mono ?_
  rintro e w3 ⟨rfl, hb⟩
  replace C := C.kept hb
  replace B := bthen B hb
  replace T := T.kept hb
  clear hb c0 c1 c2 c3 c4 c5 c6 c7 c8 c9 c10 c11 c12 c13 
  obtain ⟨_, c0, c1, c2, c3, c4, c5, c6, c7, c8, c9, c10, c11, c12, c13⟩ := id C
  go_wp2_with fail
  refine (cn _).mono ?_
  rintro e w4 ⟨rfl, hb⟩
  replace C := C.kept hb
  replace B := bthen B hb
  replace T := T.kept hb
  clear hb c0 c1 c2 c3 c4 c5 c6 c7 c8 c9 c10 c11 c12 c13 
  obtain ⟨_, c0, c1, c2, c3, c4, c5, c6, c7, c8, c9, c10, c11, c12, c13⟩ := id C
  go_wp2_with fail
  refine (cm _).mono ?_
  rintro e w5 ⟨rfl, hb⟩
  replace C := C.kept hb
  replace B := bthen B hb
  replace T := T.kept hb
  clear hb c0 c1 c2 c3 c4 c5 c6 c7 c8 c9 c10 c11 c12 c13 
  obtain ⟨_, c0, c1, c2, c3, c4, c5, c6, c7, c8, c9, c10, c11, c12, c13⟩ := id C
  go_wp2
  go_ret2
  exact ⟨by simp, B⟩

set_option maxRecDepth 100000 in
theorem rweek_3a (c : CalZ) (y t x : Int) (w : World) (ok : CalOk c) (k6 : c.k ≠ 6) (sy : Served c y) (st : Served c t) (x0 : 1 ≤ x) (x1 : x ≤ nweeks c y) (po : c.po = 3) (D : x = addw c y ∧ addw c t = 0) (K : ChkSays c) (hm : c.nm.size ≤ maxLen) (T : FTab w) :
    Calls Tryz.prog 63 #[.agg #[.string c.nm, .int .i64 c.k, .int .i64 c.d, .int .i64 c.m, .int .i64 c.s, .int .i64 c.sh, .int .i64 c.p0, .int .i64 c.p1, .int .i64 c.p2, .int .i64 c.cy, .int .i64 c.ex, .int .i64 c.fi, .int .i64 c.la, .int .i64 c.po], .int .i64 y, .int .i64 t, .int .i64 x] w fun e w' => e = .returned (.tuple #[.int .i64 0, .int .i64 12]) ∧ Below w.heap.size w w' := by
  have C := CalIn.new w c 24
  have B := balloc (Below.refl _ w) (.cells #[.string c.nm, .int .i64 c.k, .int .i64 c.d, .int .i64 c.m, .int .i64 c.s, .int .i64 c.sh, .int .i64 c.p0, .int .i64 c.p1, .int .i64 c.p2, .int .i64 c.cy, .int .i64 c.ex, .int .i64 c.fi, .int .i64 c.la, .int .i64 c.po] 24)
  replace T := T.alloc (.cells #[.string c.nm, .int .i64 c.k, .int .i64 c.d, .int .i64 c.m, .int .i64 c.s, .int .i64 c.sh, .int .i64 c.p0, .int .i64 c.p1, .int .i64 c.p2, .int .i64 c.cy, .int .i64 c.ex, .int .i64 c.fi, .int .i64 c.la, .int .i64 c.po] 24)
  have ck := fun w => K 0 w (.inl ⟨ok, rfl⟩)
  have cy := fun w => rserved_any c y true w (.inl ⟨rfl, sy⟩)
  have ct := fun w => rserved_any c t true w (.inl ⟨rfl, st⟩)
  have by' := served_told ok sy
  have bt := served_told ok st
  have d6 : (c.k == 6) = false := beq_eq_false_iff_ne.2 k6
  obtain ⟨n, hn⟩ : ∃ n, n = nweeks c y := ⟨_, rfl⟩
  obtain ⟨m, hm'⟩ : ∃ m, m = nweeks c t := ⟨_, rfl⟩
  have nb := (nweeks_01 ok.1 k6 (y := y) (by omega) (by omega)).1
  have mb := (nweeks_01 ok.1 k6 (y := t) (by omega) (by omega)).1
  have cn := fun w => rWeeks_any c y n 0 w (.inl ⟨ok, k6, by omega, by omega, hn, rfl⟩) K
  have cm := fun w => rWeeks_any c t m 0 w (.inl ⟨ok, k6, by omega, by omega, hm', rfl⟩) K
  rw [← hn] at x1 nb
  rw [← hm'] at mb
  have x2 : x ≤ 60 := by omega
  have p1 : (c.po == 1) = false := beq_eq_false_iff_ne.2 (by omega)
  have p2 : (c.po == 2) = false := beq_eq_false_iff_ne.2 (by omega)
  have ay := addw_bd ok k6 (y := y) (by omega) (by omega)
  have at' := addw_bd ok k6 (y := t) (by omega) (by omega)
  obtain ⟨a, ha⟩ : ∃ a, addw c y = a := ⟨_, rfl⟩
  obtain ⟨b, hb0⟩ : ∃ b, addw c t = b := ⟨_, rfl⟩
  have ca := fun w T => rAdded_any c y a 0 w (by rw [← ha]; exact added_is ok k6 (by omega) (by omega)) K hm T
  have cb := fun w T => rAdded_any c t b 0 w (by rw [← hb0]; exact added_is ok k6 (by omega) (by omega)) K hm T
  rw [ha] at ay D
  rw [hb0] at at' D
  have ab : 0 ≤ a ∧ a ≤ 53 := by omega
  have bb : 0 ≤ b ∧ b ≤ 53 := by omega
  clear ay at' ha hb0
  have xa : (x == a) = true := beq_iff_eq.2 D.1
  have b0 : (b == 0) = true := beq_iff_eq.2 D.2
  clear D
  clear ok k6 sy st hn hm' by' bt po K nb mb
  go_enter Tryz.func63, Tryz.ntmps63
  go_upto_region 1 with fail
  generalize w.alloc (.cells #[.string c.nm, .int .i64 c.k, .int .i64 c.d, .int .i64 c.m, .int .i64 c.s, .int .i64 c.sh, .int .i64 c.p0, .int .i64 c.p1, .int .i64 c.p2, .int .i64 c.cy, .int .i64 c.ex, .int .i64 c.fi, .int .i64 c.la, .int .i64 c.po] 24) = W0 at *
  obtain ⟨_, c0, c1, c2, c3, c4, c5, c6, c7, c8, c9, c10, c11, c12, c13⟩ := id C
  go_wp2_with fail
  refine (ck _).mono ?_
  rintro e w1 ⟨rfl, hb⟩
  replace C := C.kept hb
  replace B := bthen B hb
  replace T := T.kept hb
  clear hb c0 c1 c2 c3 c4 c5 c6 c7 c8 c9 c10 c11 c12 c13 
  obtain ⟨_, c0, c1, c2, c3, c4, c5, c6, c7, c8, c9, c10, c11, c12, c13⟩ := id C
  go_wp2_with fail
  refine (cy _).mono ?_
  rintro e w2 ⟨rfl, hb⟩
  replace C := C.kept hb
  replace B := bthen B hb
  replace T := T.kept hb
  clear hb c0 c1 c2 c3 c4 c5 c6 c7 c8 c9 c10 c11 c12 c13 
  obtain ⟨_, c0, c1, c2, c3, c4, c5, c6, c7, c8, c9, c10, c11, c12, c13⟩ := id C
  go_wp2_with fail
  refine (ct _).mono ?_
  rintro e w3 ⟨rfl, hb⟩
  replace C := C.kept hb
  replace B := bthen B hb
  replace T := T.kept hb
  clear hb c0 c1 c2 c3 c4 c5 c6 c7 c8 c9 c10 c11 c12 c13 
  obtain ⟨_, c0, c1, c2, c3, c4, c5, c6, c7, c8, c9, c10, c11, c12, c13⟩ := id C
  go_wp2_with fail
  refine (cn _).mono ?_
  rintro e w4 ⟨rfl, hb⟩
  replace C := C.kept hb
  replace B := bthen B hb
  replace T := T.kept hb
  clear hb c0 c1 c2 c3 c4 c5 c6 c7 c8 c9 c10 c11 c12 c13 
  obtain ⟨_, c0, c1, c2, c3, c4, c5, c6, c7, c8, c9, c10, c11, c12, c13⟩ := id C
  go_wp2_with fail
  refine (cm _).mono ?_
  rintro e w5 ⟨rfl, hb⟩
  replace C := C.kept hb
  replace B := bthen B hb
  replace T := T.kept hb
  clear hb c0 c1 c2 c3 c4 c5 c6 c7 c8 c9 c10 c11 c12 c13 
  obtain ⟨_, c0, c1, c2, c3, c4, c5, c6, c7, c8, c9, c10, c11, c12, c13⟩ := id C
  go_wp2_with fail
  refine (ca _ T).mono ?_
  rintro e w6 ⟨rfl, hb⟩
  replace C := C.kept hb
  replace B := bthen B hb
  replace T := T.kept hb
  clear hb c0 c1 c2 c3 c4 c5 c6 c7 c8 c9 c10 c11 c12 c13 
  obtain ⟨_, c0, c1, c2, c3, c4, c5, c6, c7, c8, c9, c10, c11, c12, c13⟩ := id C
  go_wp2_with fail
  refine (cb _ T).mono ?_
  rintro e w7 ⟨rfl, hb⟩
  replace C := C.kept hb
  replace B := bthen B hb
  replace T := T.kept hb
  clear hb c0 c1 c2 c3 c4 c5 c6 c7 c8 c9 c10 c11 c12 c13 
  obtain ⟨_, c0, c1, c2, c3, c4, c5, c6, c7, c8, c9, c10, c11, c12, c13⟩ := id C
  go_wp2
  go_ret2
  exact ⟨by simp, B⟩

set_option maxRecDepth 100000 in
theorem rweek_3b (c : CalZ) (y t x v : Int) (w : World) (ok : CalOk c) (k6 : c.k ≠ 6) (sy : Served c y) (st : Served c t) (x0 : 1 ≤ x) (x1 : x ≤ nweeks c y) (po : c.po = 3) (D : x = addw c y ∧ addw c t ≠ 0 ∧ v = addw c t) (K : ChkSays c) (hm : c.nm.size ≤ maxLen) (T : FTab w) :
    Calls Tryz.prog 63 #[.agg #[.string c.nm, .int .i64 c.k, .int .i64 c.d, .int .i64 c.m, .int .i64 c.s, .int .i64 c.sh, .int .i64 c.p0, .int .i64 c.p1, .int .i64 c.p2, .int .i64 c.cy, .int .i64 c.ex, .int .i64 c.fi, .int .i64 c.la, .int .i64 c.po], .int .i64 y, .int .i64 t, .int .i64 x] w fun e w' => e = .returned (.tuple #[.int .i64 v, .int .i64 0]) ∧ Below w.heap.size w w' := by
  have C := CalIn.new w c 24
  have B := balloc (Below.refl _ w) (.cells #[.string c.nm, .int .i64 c.k, .int .i64 c.d, .int .i64 c.m, .int .i64 c.s, .int .i64 c.sh, .int .i64 c.p0, .int .i64 c.p1, .int .i64 c.p2, .int .i64 c.cy, .int .i64 c.ex, .int .i64 c.fi, .int .i64 c.la, .int .i64 c.po] 24)
  replace T := T.alloc (.cells #[.string c.nm, .int .i64 c.k, .int .i64 c.d, .int .i64 c.m, .int .i64 c.s, .int .i64 c.sh, .int .i64 c.p0, .int .i64 c.p1, .int .i64 c.p2, .int .i64 c.cy, .int .i64 c.ex, .int .i64 c.fi, .int .i64 c.la, .int .i64 c.po] 24)
  have ck := fun w => K 0 w (.inl ⟨ok, rfl⟩)
  have cy := fun w => rserved_any c y true w (.inl ⟨rfl, sy⟩)
  have ct := fun w => rserved_any c t true w (.inl ⟨rfl, st⟩)
  have by' := served_told ok sy
  have bt := served_told ok st
  have d6 : (c.k == 6) = false := beq_eq_false_iff_ne.2 k6
  obtain ⟨n, hn⟩ : ∃ n, n = nweeks c y := ⟨_, rfl⟩
  obtain ⟨m, hm'⟩ : ∃ m, m = nweeks c t := ⟨_, rfl⟩
  have nb := (nweeks_01 ok.1 k6 (y := y) (by omega) (by omega)).1
  have mb := (nweeks_01 ok.1 k6 (y := t) (by omega) (by omega)).1
  have cn := fun w => rWeeks_any c y n 0 w (.inl ⟨ok, k6, by omega, by omega, hn, rfl⟩) K
  have cm := fun w => rWeeks_any c t m 0 w (.inl ⟨ok, k6, by omega, by omega, hm', rfl⟩) K
  rw [← hn] at x1 nb
  rw [← hm'] at mb
  have x2 : x ≤ 60 := by omega
  have p1 : (c.po == 1) = false := beq_eq_false_iff_ne.2 (by omega)
  have p2 : (c.po == 2) = false := beq_eq_false_iff_ne.2 (by omega)
  have ay := addw_bd ok k6 (y := y) (by omega) (by omega)
  have at' := addw_bd ok k6 (y := t) (by omega) (by omega)
  obtain ⟨a, ha⟩ : ∃ a, addw c y = a := ⟨_, rfl⟩
  obtain ⟨b, hb0⟩ : ∃ b, addw c t = b := ⟨_, rfl⟩
  have ca := fun w T => rAdded_any c y a 0 w (by rw [← ha]; exact added_is ok k6 (by omega) (by omega)) K hm T
  have cb := fun w T => rAdded_any c t b 0 w (by rw [← hb0]; exact added_is ok k6 (by omega) (by omega)) K hm T
  rw [ha] at ay D
  rw [hb0] at at' D
  have ab : 0 ≤ a ∧ a ≤ 53 := by omega
  have bb : 0 ≤ b ∧ b ≤ 53 := by omega
  clear ay at' ha hb0
  have xa : (x == a) = true := beq_iff_eq.2 D.1
  have b0 : (b == 0) = false := beq_eq_false_iff_ne.2 D.2.1
  obtain rfl := D.2.2
  clear D
  clear ok k6 sy st hn hm' by' bt po K nb mb
  go_enter Tryz.func63, Tryz.ntmps63
  go_upto_region 1 with fail
  generalize w.alloc (.cells #[.string c.nm, .int .i64 c.k, .int .i64 c.d, .int .i64 c.m, .int .i64 c.s, .int .i64 c.sh, .int .i64 c.p0, .int .i64 c.p1, .int .i64 c.p2, .int .i64 c.cy, .int .i64 c.ex, .int .i64 c.fi, .int .i64 c.la, .int .i64 c.po] 24) = W0 at *
  obtain ⟨_, c0, c1, c2, c3, c4, c5, c6, c7, c8, c9, c10, c11, c12, c13⟩ := id C
  go_wp2_with fail
  refine (ck _).mono ?_
  rintro e w1 ⟨rfl, hb⟩
  replace C := C.kept hb
  replace B := bthen B hb
  replace T := T.kept hb
  clear hb c0 c1 c2 c3 c4 c5 c6 c7 c8 c9 c10 c11 c12 c13 
  obtain ⟨_, c0, c1, c2, c3, c4, c5, c6, c7, c8, c9, c10, c11, c12, c13⟩ := id C
  go_wp2_with fail
  refine (cy _).mono ?_
  rintro e w2 ⟨rfl, hb⟩
  replace C := C.kept hb
  replace B := bthen B hb
  replace T := T.kept hb
  clear hb c0 c1 c2 c3 c4 c5 c6 c7 c8 c9 c10 c11 c12 c13 
  obtain ⟨_, c0, c1, c2, c3, c4, c5, c6, c7, c8, c9, c10, c11, c12, c13⟩ := id C
  go_wp2_with fail
  refine (ct _).mono ?_
  rintro e w3 ⟨rfl, hb⟩
  replace C := C.kept hb
  replace B := bthen B hb
  replace T := T.kept hb
  clear hb c0 c1 c2 c3 c4 c5 c6 c7 c8 c9 c10 c11 c12 c13 
  obtain ⟨_, c0, c1, c2, c3, c4, c5, c6, c7, c8, c9, c10, c11, c12, c13⟩ := id C
  go_wp2_with fail
  refine (cn _).mono ?_
  rintro e w4 ⟨rfl, hb⟩
  replace C := C.kept hb
  replace B := bthen B hb
  replace T := T.kept hb
  clear hb c0 c1 c2 c3 c4 c5 c6 c7 c8 c9 c10 c11 c12 c13 
  obtain ⟨_, c0, c1, c2, c3, c4, c5, c6, c7, c8, c9, c10, c11, c12, c13⟩ := id C
  go_wp2_with fail
  refine (cm _).mono ?_
  rintro e w5 ⟨rfl, hb⟩
  replace C := C.kept hb
  replace B := bthen B hb
  replace T := T.kept hb
  clear hb c0 c1 c2 c3 c4 c5 c6 c7 c8 c9 c10 c11 c12 c13 
  obtain ⟨_, c0, c1, c2, c3, c4, c5, c6, c7, c8, c9, c10, c11, c12, c13⟩ := id C
  go_wp2_with fail
  refine (ca _ T).mono ?_
  rintro e w6 ⟨rfl, hb⟩
  replace C := C.kept hb
  replace B := bthen B hb
  replace T := T.kept hb
  clear hb c0 c1 c2 c3 c4 c5 c6 c7 c8 c9 c10 c11 c12 c13 
  obtain ⟨_, c0, c1, c2, c3, c4, c5, c6, c7, c8, c9, c10, c11, c12, c13⟩ := id C
  go_wp2_with fail
  refine (cb _ T).mono ?_
  rintro e w7 ⟨rfl, hb⟩
  replace C := C.kept hb
  replace B := bthen B hb
  replace T := T.kept hb
  clear hb c0 c1 c2 c3 c4 c5 c6 c7 c8 c9 c10 c11 c12 c13 
  obtain ⟨_, c0, c1, c2, c3, c4, c5, c6, c7, c8, c9, c10, c11, c12, c13⟩ := id C
  go_wp2
  go_ret2
  exact ⟨by simp, B⟩

set_option maxRecDepth 100000 in
theorem rweek_3c (c : CalZ) (y t x v : Int) (w : World) (ok : CalOk c) (k6 : c.k ≠ 6) (sy : Served c y) (st : Served c t) (x0 : 1 ≤ x) (x1 : x ≤ nweeks c y) (po : c.po = 3) (D : x ≠ addw c y ∧ (0 < addw c y ∧ addw c y < x) ∧ v = dropA x (addw c y) (addw c t)) (K : ChkSays c) (hm : c.nm.size ≤ maxLen) (T : FTab w) :
    Calls Tryz.prog 63 #[.agg #[.string c.nm, .int .i64 c.k, .int .i64 c.d, .int .i64 c.m, .int .i64 c.s, .int .i64 c.sh, .int .i64 c.p0, .int .i64 c.p1, .int .i64 c.p2, .int .i64 c.cy, .int .i64 c.ex, .int .i64 c.fi, .int .i64 c.la, .int .i64 c.po], .int .i64 y, .int .i64 t, .int .i64 x] w fun e w' => e = .returned (.tuple #[.int .i64 v, .int .i64 0]) ∧ Below w.heap.size w w' := by
  have C := CalIn.new w c 24
  have B := balloc (Below.refl _ w) (.cells #[.string c.nm, .int .i64 c.k, .int .i64 c.d, .int .i64 c.m, .int .i64 c.s, .int .i64 c.sh, .int .i64 c.p0, .int .i64 c.p1, .int .i64 c.p2, .int .i64 c.cy, .int .i64 c.ex, .int .i64 c.fi, .int .i64 c.la, .int .i64 c.po] 24)
  replace T := T.alloc (.cells #[.string c.nm, .int .i64 c.k, .int .i64 c.d, .int .i64 c.m, .int .i64 c.s, .int .i64 c.sh, .int .i64 c.p0, .int .i64 c.p1, .int .i64 c.p2, .int .i64 c.cy, .int .i64 c.ex, .int .i64 c.fi, .int .i64 c.la, .int .i64 c.po] 24)
  have ck := fun w => K 0 w (.inl ⟨ok, rfl⟩)
  have cy := fun w => rserved_any c y true w (.inl ⟨rfl, sy⟩)
  have ct := fun w => rserved_any c t true w (.inl ⟨rfl, st⟩)
  have by' := served_told ok sy
  have bt := served_told ok st
  have d6 : (c.k == 6) = false := beq_eq_false_iff_ne.2 k6
  obtain ⟨n, hn⟩ : ∃ n, n = nweeks c y := ⟨_, rfl⟩
  obtain ⟨m, hm'⟩ : ∃ m, m = nweeks c t := ⟨_, rfl⟩
  have nb := (nweeks_01 ok.1 k6 (y := y) (by omega) (by omega)).1
  have mb := (nweeks_01 ok.1 k6 (y := t) (by omega) (by omega)).1
  have cn := fun w => rWeeks_any c y n 0 w (.inl ⟨ok, k6, by omega, by omega, hn, rfl⟩) K
  have cm := fun w => rWeeks_any c t m 0 w (.inl ⟨ok, k6, by omega, by omega, hm', rfl⟩) K
  rw [← hn] at x1 nb
  rw [← hm'] at mb
  have x2 : x ≤ 60 := by omega
  have p1 : (c.po == 1) = false := beq_eq_false_iff_ne.2 (by omega)
  have p2 : (c.po == 2) = false := beq_eq_false_iff_ne.2 (by omega)
  have ay := addw_bd ok k6 (y := y) (by omega) (by omega)
  have at' := addw_bd ok k6 (y := t) (by omega) (by omega)
  obtain ⟨a, ha⟩ : ∃ a, addw c y = a := ⟨_, rfl⟩
  obtain ⟨b, hb0⟩ : ∃ b, addw c t = b := ⟨_, rfl⟩
  have ca := fun w T => rAdded_any c y a 0 w (by rw [← ha]; exact added_is ok k6 (by omega) (by omega)) K hm T
  have cb := fun w T => rAdded_any c t b 0 w (by rw [← hb0]; exact added_is ok k6 (by omega) (by omega)) K hm T
  rw [ha] at ay D
  rw [hb0] at at' D
  have ab : 0 ≤ a ∧ a ≤ 53 := by omega
  have bb : 0 ≤ b ∧ b ≤ 53 := by omega
  clear ay at' ha hb0
  have xa : (x == a) = false := beq_eq_false_iff_ne.2 D.1
  have f1 : decide ((0 : Int) < a) = true := decide_eq_true D.2.1.1
  have f2 : decide (a < x) = true := decide_eq_true D.2.1.2
  have di := dropa_is a b x
  rw [← D.2.2] at di
  have v0 : 1 ≤ v := by omega
  have HC : Hid (∀ k : Nat, (k : Int) + 1 ≤ v → 0 ≤ cnt (x - 1 - 1) b k ∧ cnt (x - 1 - 1) b k ≤ 60 ∧ (((k : Int) + 1 = b ∧ (k : Int) + 1 < v ∧ cnt (x - 1 - 1) b (k + 1) = cnt (x - 1 - 1) b k) ∨ ((k : Int) + 1 ≠ b ∧ (k : Int) + 1 < v ∧ cnt (x - 1 - 1) b k ≠ 0 ∧ cnt (x - 1 - 1) b (k + 1) = cnt (x - 1 - 1) b k - 1) ∨ ((k : Int) + 1 ≠ b ∧ (k : Int) + 1 = v ∧ cnt (x - 1 - 1) b k = 0))) :=
    Lib.hid (fun k hk => cnt_step (x - 1 - 1) b v k (by omega) (by omega) (by omega) hk)
  have vb : v ≤ 70 := by omega
  clear D di
  clear ok k6 sy st hn hm' by' bt po K nb mb
  go_enter Tryz.func63, Tryz.ntmps63
  go_upto_region 1 with fail
  generalize w.alloc (.cells #[.string c.nm, .int .i64 c.k, .int .i64 c.d, .int .i64 c.m, .int .i64 c.s, .int .i64 c.sh, .int .i64 c.p0, .int .i64 c.p1, .int .i64 c.p2, .int .i64 c.cy, .int .i64 c.ex, .int .i64 c.fi, .int .i64 c.la, .int .i64 c.po] 24) = W0 at *
  obtain ⟨_, c0, c1, c2, c3, c4, c5, c6, c7, c8, c9, c10, c11, c12, c13⟩ := id C
  go_wp2_with fail
  refine (ck _).mono ?_
  rintro e w1 ⟨rfl, hb⟩
  replace C := C.kept hb
  replace B := bthen B hb
  replace T := T.kept hb
  clear hb c0 c1 c2 c3 c4 c5 c6 c7 c8 c9 c10 c11 c12 c13 
  obtain ⟨_, c0, c1, c2, c3, c4, c5, c6, c7, c8, c9, c10, c11, c12, c13⟩ := id C
  go_wp2_with fail
  refine (cy _).mono ?_
  rintro e w2 ⟨rfl, hb⟩
  replace C := C.kept hb
  replace B := bthen B hb
  replace T := T.kept hb
  clear hb c0 c1 c2 c3 c4 c5 c6 c7 c8 c9 c10 c11 c12 c13 
  obtain ⟨_, c0, c1, c2, c3, c4, c5, c6, c7, c8, c9, c10, c11, c12, c13⟩ := id C
  go_wp2_with fail
  refine (ct _).mono ?_
  rintro e w3 ⟨rfl, hb⟩
  replace C := C.kept hb
  replace B := bthen B hb
  replace T := T.kept hb
  clear hb c0 c1 c2 c3 c4 c5 c6 c7 c8 c9 c10 c11 c12 c13 
  obtain ⟨_, c0, c1, c2, c3, c4, c5, c6, c7, c8, c9, c10, c11, c12, c13⟩ := id C
  go_wp2_with fail
  refine (cn _).mono ?_
  rintro e w4 ⟨rfl, hb⟩
  replace C := C.kept hb
  replace B := bthen B hb
  replace T := T.kept hb
  clear hb c0 c1 c2 c3 c4 c5 c6 c7 c8 c9 c10 c11 c12 c13 
  obtain ⟨_, c0, c1, c2, c3, c4, c5, c6, c7, c8, c9, c10, c11, c12, c13⟩ := id C
  go_wp2_with fail
  refine (cm _).mono ?_
  rintro e w5 ⟨rfl, hb⟩
  replace C := C.kept hb
  replace B := bthen B hb
  replace T := T.kept hb
  clear hb c0 c1 c2 c3 c4 c5 c6 c7 c8 c9 c10 c11 c12 c13 
  obtain ⟨_, c0, c1, c2, c3, c4, c5, c6, c7, c8, c9, c10, c11, c12, c13⟩ := id C
  go_wp2_with fail
  refine (ca _ T).mono ?_
  rintro e w6 ⟨rfl, hb⟩
  replace C := C.kept hb
  replace B := bthen B hb
  replace T := T.kept hb
  clear hb c0 c1 c2 c3 c4 c5 c6 c7 c8 c9 c10 c11 c12 c13 
  obtain ⟨_, c0, c1, c2, c3, c4, c5, c6, c7, c8, c9, c10, c11, c12, c13⟩ := id C
  go_wp2_with fail
  refine (cb _ T).mono ?_
  rintro e w7 ⟨rfl, hb⟩
  replace C := C.kept hb
  replace B := bthen B hb
  replace T := T.kept hb
  clear hb c0 c1 c2 c3 c4 c5 c6 c7 c8 c9 c10 c11 c12 c13 
  obtain ⟨_, c0, c1, c2, c3, c4, c5, c6, c7, c8, c9, c10, c11, c12, c13⟩ := id C
  clear ck cy ct cn cm ca cb
  have C0 := cnt_zero (x - 1 - 1) b
  have H0 := Lib.hid C0
  clear C0
  go_wp2
  go_loopw [18, 19] (fun A V wr => ∃ k : Nat, (k : Int) + 1 ≤ v ∧ V = .int .i64 ((k : Int) + 1) ∧ A = .int .i64 (cnt (x - 1 - 1) b k) ∧ Below w7.heap.size w7 wr) (fun _ V _ => (v - intOf V).toNat)
  case atStart => exact ⟨0, by omega, rfl, by have h := H0.out; rw [h]; try rfl; try (congr 1; omega), Below.refl _ _⟩
  case round =>
    obtain ⟨k, kM, rfl, rfl, B2⟩ := hrel
    obtain ⟨c0, c1, OO⟩ := HC.out k kM
    obtain ⟨p, hp⟩ : ∃ p, cnt (x - 1 - 1) b k = p := ⟨_, rfl⟩
    rw [hp] at c0 c1 OO
    rw [hp]
    have k60 : (k : Int) ≤ 70 := by omega
    rcases OO with ⟨q1, q2, q3⟩ | ⟨q1, q2, q4, q3⟩ | ⟨q1, q2, q4⟩
    · have HQ := Lib.hid (And.intro q3 hp)
      have HK := Lib.hid q2
      have d1 : ((k : Int) + 1 == b) = true := beq_iff_eq.2 q1
      clear q1 q2 q3 hp
      go_wp2
      go_roundw
      case rel => exact ⟨k + 1, by have := HK.out; omega, by go_num, by rw [HQ.out.1], B2⟩
      case measure => have := HK.out; simp [intOf]; omega
    · have HQ := Lib.hid (And.intro q3 hp)
      have HK := Lib.hid q2
      have d1 : ((k : Int) + 1 == b) = false := beq_eq_false_iff_ne.2 q1
      have d2 : (p == 0) = false := beq_eq_false_iff_ne.2 q4
      clear q1 q2 q3 q4 hp
      go_wp2
      go_roundw
      case rel => exact ⟨k + 1, by have := HK.out; omega, by go_num, by rw [HQ.out.1], B2⟩
      case measure => have := HK.out; simp [intOf]; omega
    · have d1 : ((k : Int) + 1 == b) = false := beq_eq_false_iff_ne.2 q1
      have d2 : (p == 0) = true := beq_iff_eq.2 q4
      have HK := Lib.hid q2
      clear q1 q2 q4 hp
      go_wp2
      go_ret2
      exact ⟨by simp [HK.out], bthen B B2⟩

set_option maxRecDepth 100000 in
theorem rweek_3d (c : CalZ) (y t x v : Int) (w : World) (ok : CalOk c) (k6 : c.k ≠ 6) (sy : Served c y) (st : Served c t) (x0 : 1 ≤ x) (x1 : x ≤ nweeks c y) (po : c.po = 3) (D : x ≠ addw c y ∧ (¬ 0 < addw c y) ∧ v = dropA x (addw c y) (addw c t)) (K : ChkSays c) (hm : c.nm.size ≤ maxLen) (T : FTab w) :
    Calls Tryz.prog 63 #[.agg #[.string c.nm, .int .i64 c.k, .int .i64 c.d, .int .i64 c.m, .int .i64 c.s, .int .i64 c.sh, .int .i64 c.p0, .int .i64 c.p1, .int .i64 c.p2, .int .i64 c.cy, .int .i64 c.ex, .int .i64 c.fi, .int .i64 c.la, .int .i64 c.po], .int .i64 y, .int .i64 t, .int .i64 x] w fun e w' => e = .returned (.tuple #[.int .i64 v, .int .i64 0]) ∧ Below w.heap.size w w' := by
  have C := CalIn.new w c 24
  have B := balloc (Below.refl _ w) (.cells #[.string c.nm, .int .i64 c.k, .int .i64 c.d, .int .i64 c.m, .int .i64 c.s, .int .i64 c.sh, .int .i64 c.p0, .int .i64 c.p1, .int .i64 c.p2, .int .i64 c.cy, .int .i64 c.ex, .int .i64 c.fi, .int .i64 c.la, .int .i64 c.po] 24)
  replace T := T.alloc (.cells #[.string c.nm, .int .i64 c.k, .int .i64 c.d, .int .i64 c.m, .int .i64 c.s, .int .i64 c.sh, .int .i64 c.p0, .int .i64 c.p1, .int .i64 c.p2, .int .i64 c.cy, .int .i64 c.ex, .int .i64 c.fi, .int .i64 c.la, .int .i64 c.po] 24)
  have ck := fun w => K 0 w (.inl ⟨ok, rfl⟩)
  have cy := fun w => rserved_any c y true w (.inl ⟨rfl, sy⟩)
  have ct := fun w => rserved_any c t true w (.inl ⟨rfl, st⟩)
  have by' := served_told ok sy
  have bt := served_told ok st
  have d6 : (c.k == 6) = false := beq_eq_false_iff_ne.2 k6
  obtain ⟨n, hn⟩ : ∃ n, n = nweeks c y := ⟨_, rfl⟩
  obtain ⟨m, hm'⟩ : ∃ m, m = nweeks c t := ⟨_, rfl⟩
  have nb := (nweeks_01 ok.1 k6 (y := y) (by omega) (by omega)).1
  have mb := (nweeks_01 ok.1 k6 (y := t) (by omega) (by omega)).1
  have cn := fun w => rWeeks_any c y n 0 w (.inl ⟨ok, k6, by omega, by omega, hn, rfl⟩) K
  have cm := fun w => rWeeks_any c t m 0 w (.inl ⟨ok, k6, by omega, by omega, hm', rfl⟩) K
  rw [← hn] at x1 nb
  rw [← hm'] at mb
  have x2 : x ≤ 60 := by omega
  have p1 : (c.po == 1) = false := beq_eq_false_iff_ne.2 (by omega)
  have p2 : (c.po == 2) = false := beq_eq_false_iff_ne.2 (by omega)
  have ay := addw_bd ok k6 (y := y) (by omega) (by omega)
  have at' := addw_bd ok k6 (y := t) (by omega) (by omega)
  obtain ⟨a, ha⟩ : ∃ a, addw c y = a := ⟨_, rfl⟩
  obtain ⟨b, hb0⟩ : ∃ b, addw c t = b := ⟨_, rfl⟩
  have ca := fun w T => rAdded_any c y a 0 w (by rw [← ha]; exact added_is ok k6 (by omega) (by omega)) K hm T
  have cb := fun w T => rAdded_any c t b 0 w (by rw [← hb0]; exact added_is ok k6 (by omega) (by omega)) K hm T
  rw [ha] at ay D
  rw [hb0] at at' D
  have ab : 0 ≤ a ∧ a ≤ 53 := by omega
  have bb : 0 ≤ b ∧ b ≤ 53 := by omega
  clear ay at' ha hb0
  have xa : (x == a) = false := beq_eq_false_iff_ne.2 D.1
  have f1 : decide ((0 : Int) < a) = false := decide_eq_false D.2.1
  have di := dropa_is a b x
  rw [← D.2.2] at di
  have v0 : 1 ≤ v := by omega
  have HC : Hid (∀ k : Nat, (k : Int) + 1 ≤ v → 0 ≤ cnt (x - 1) b k ∧ cnt (x - 1) b k ≤ 60 ∧ (((k : Int) + 1 = b ∧ (k : Int) + 1 < v ∧ cnt (x - 1) b (k + 1) = cnt (x - 1) b k) ∨ ((k : Int) + 1 ≠ b ∧ (k : Int) + 1 < v ∧ cnt (x - 1) b k ≠ 0 ∧ cnt (x - 1) b (k + 1) = cnt (x - 1) b k - 1) ∨ ((k : Int) + 1 ≠ b ∧ (k : Int) + 1 = v ∧ cnt (x - 1) b k = 0))) :=
    Lib.hid (fun k hk => cnt_step (x - 1) b v k (by omega) (by omega) (by omega) hk)
  have vb : v ≤ 70 := by omega
  clear D di
  clear ok k6 sy st hn hm' by' bt po K nb mb
  go_enter Tryz.func63, Tryz.ntmps63
  go_upto_region 1 with fail
  generalize w.alloc (.cells #[.string c.nm, .int .i64 c.k, .int .i64 c.d, .int .i64 c.m, .int .i64 c.s, .int .i64 c.sh, .int .i64 c.p0, .int .i64 c.p1, .int .i64 c.p2, .int .i64 c.cy, .int .i64 c.ex, .int .i64 c.fi, .int .i64 c.la, .int .i64 c.po] 24) = W0 at *
  obtain ⟨_, c0, c1, c2, c3, c4, c5, c6, c7, c8, c9, c10, c11, c12, c13⟩ := id C
  go_wp2_with fail
  refine (ck _).mono ?_
  rintro e w1 ⟨rfl, hb⟩
  replace C := C.kept hb
  replace B := bthen B hb
  replace T := T.kept hb
  clear hb c0 c1 c2 c3 c4 c5 c6 c7 c8 c9 c10 c11 c12 c13 
  obtain ⟨_, c0, c1, c2, c3, c4, c5, c6, c7, c8, c9, c10, c11, c12, c13⟩ := id C
  go_wp2_with fail
  refine (cy _).mono ?_
  rintro e w2 ⟨rfl, hb⟩
  replace C := C.kept hb
  replace B := bthen B hb
  replace T := T.kept hb
  clear hb c0 c1 c2 c3 c4 c5 c6 c7 c8 c9 c10 c11 c12 c13 
  obtain ⟨_, c0, c1, c2, c3, c4, c5, c6, c7, c8, c9, c10, c11, c12, c13⟩ := id C
  go_wp2_with fail
  refine (ct _).mono ?_
  rintro e w3 ⟨rfl, hb⟩
  replace C := C.kept hb
  replace B := bthen B hb
  replace T := T.kept hb
  clear hb c0 c1 c2 c3 c4 c5 c6 c7 c8 c9 c10 c11 c12 c13 
  obtain ⟨_, c0, c1, c2, c3, c4, c5, c6, c7, c8, c9, c10, c11, c12, c13⟩ := id C
  go_wp2_with fail
  refine (cn _).mono ?_
  rintro e w4 ⟨rfl, hb⟩
  replace C := C.kept hb
  replace B := bthen B hb
  replace T := T.kept hb
  clear hb c0 c1 c2 c3 c4 c5 c6 c7 c8 c9 c10 c11 c12 c13 
  obtain ⟨_, c0, c1, c2, c3, c4, c5, c6, c7, c8, c9, c10, c11, c12, c13⟩ := id C
  go_wp2_with fail
  refine (cm _).mono ?_
  rintro e w5 ⟨rfl, hb⟩
  replace C := C.kept hb
  replace B := bthen B hb
  replace T := T.kept hb
  clear hb c0 c1 c2 c3 c4 c5 c6 c7 c8 c9 c10 c11 c12 c13 
  obtain ⟨_, c0, c1, c2, c3, c4, c5, c6, c7, c8, c9, c10, c11, c12, c13⟩ := id C
  go_wp2_with fail
  refine (ca _ T).mono ?_
  rintro e w6 ⟨rfl, hb⟩
  replace C := C.kept hb
  replace B := bthen B hb
  replace T := T.kept hb
  clear hb c0 c1 c2 c3 c4 c5 c6 c7 c8 c9 c10 c11 c12 c13 
  obtain ⟨_, c0, c1, c2, c3, c4, c5, c6, c7, c8, c9, c10, c11, c12, c13⟩ := id C
  go_wp2_with fail
  refine (cb _ T).mono ?_
  rintro e w7 ⟨rfl, hb⟩
  replace C := C.kept hb
  replace B := bthen B hb
  replace T := T.kept hb
  clear hb c0 c1 c2 c3 c4 c5 c6 c7 c8 c9 c10 c11 c12 c13 
  obtain ⟨_, c0, c1, c2, c3, c4, c5, c6, c7, c8, c9, c10, c11, c12, c13⟩ := id C
  clear ck cy ct cn cm ca cb
  have C0 := cnt_zero (x - 1) b
  have H0 := Lib.hid C0
  clear C0
  go_wp2
  go_loopw [18, 19] (fun A V wr => ∃ k : Nat, (k : Int) + 1 ≤ v ∧ V = .int .i64 ((k : Int) + 1) ∧ A = .int .i64 (cnt (x - 1) b k) ∧ Below w7.heap.size w7 wr) (fun _ V _ => (v - intOf V).toNat)
  case atStart => exact ⟨0, by omega, rfl, by have h := H0.out; rw [h]; try rfl; try (congr 1; omega), Below.refl _ _⟩
  case round =>
    obtain ⟨k, kM, rfl, rfl, B2⟩ := hrel
    obtain ⟨c0, c1, OO⟩ := HC.out k kM
    obtain ⟨p, hp⟩ : ∃ p, cnt (x - 1) b k = p := ⟨_, rfl⟩
    rw [hp] at c0 c1 OO
    rw [hp]
    have k60 : (k : Int) ≤ 70 := by omega
    rcases OO with ⟨q1, q2, q3⟩ | ⟨q1, q2, q4, q3⟩ | ⟨q1, q2, q4⟩
    · have HQ := Lib.hid (And.intro q3 hp)
      have HK := Lib.hid q2
      have d1 : ((k : Int) + 1 == b) = true := beq_iff_eq.2 q1
      clear q1 q2 q3 hp
      go_wp2
      go_roundw
      case rel => exact ⟨k + 1, by have := HK.out; omega, by go_num, by rw [HQ.out.1], B2⟩
      case measure => have := HK.out; simp [intOf]; omega
    · have HQ := Lib.hid (And.intro q3 hp)
      have HK := Lib.hid q2
      have d1 : ((k : Int) + 1 == b) = false := beq_eq_false_iff_ne.2 q1
      have d2 : (p == 0) = false := beq_eq_false_iff_ne.2 q4
      clear q1 q2 q3 q4 hp
      go_wp2
      go_roundw
      case rel => exact ⟨k + 1, by have := HK.out; omega, by go_num, by rw [HQ.out.1], B2⟩
      case measure => have := HK.out; simp [intOf]; omega
    · have d1 : ((k : Int) + 1 == b) = false := beq_eq_false_iff_ne.2 q1
      have d2 : (p == 0) = true := beq_iff_eq.2 q4
      have HK := Lib.hid q2
      clear q1 q2 q4 hp
      go_wp2
      go_ret2
      exact ⟨by simp [HK.out], bthen B B2⟩

set_option maxRecDepth 100000 in
theorem rweek_3e (c : CalZ) (y t x v : Int) (w : World) (ok : CalOk c) (k6 : c.k ≠ 6) (sy : Served c y) (st : Served c t) (x0 : 1 ≤ x) (x1 : x ≤ nweeks c y) (po : c.po = 3) (D : x ≠ addw c y ∧ (0 < addw c y ∧ ¬ addw c y < x) ∧ v = dropA x (addw c y) (addw c t)) (K : ChkSays c) (hm : c.nm.size ≤ maxLen) (T : FTab w) :
    Calls Tryz.prog 63 #[.agg #[.string c.nm, .int .i64 c.k, .int .i64 c.d, .int .i64 c.m, .int .i64 c.s, .int .i64 c.sh, .int .i64 c.p0, .int .i64 c.p1, .int .i64 c.p2, .int .i64 c.cy, .int .i64 c.ex, .int .i64 c.fi, .int .i64 c.la, .int .i64 c.po], .int .i64 y, .int .i64 t, .int .i64 x] w fun e w' => e = .returned (.tuple #[.int .i64 v, .int .i64 0]) ∧ Below w.heap.size w w' := by
  have C := CalIn.new w c 24
  have B := balloc (Below.refl _ w) (.cells #[.string c.nm, .int .i64 c.k, .int .i64 c.d, .int .i64 c.m, .int .i64 c.s, .int .i64 c.sh, .int .i64 c.p0, .int .i64 c.p1, .int .i64 c.p2, .int .i64 c.cy, .int .i64 c.ex, .int .i64 c.fi, .int .i64 c.la, .int .i64 c.po] 24)
  replace T := T.alloc (.cells #[.string c.nm, .int .i64 c.k, .int .i64 c.d, .int .i64 c.m, .int .i64 c.s, .int .i64 c.sh, .int .i64 c.p0, .int .i64 c.p1, .int .i64 c.p2, .int .i64 c.cy, .int .i64 c.ex, .int .i64 c.fi, .int .i64 c.la, .int .i64 c.po] 24)
  have ck := fun w => K 0 w (.inl ⟨ok, rfl⟩)
  have cy := fun w => rserved_any c y true w (.inl ⟨rfl, sy⟩)
  have ct := fun w => rserved_any c t true w (.inl ⟨rfl, st⟩)
  have by' := served_told ok sy
  have bt := served_told ok st
  have d6 : (c.k == 6) = false := beq_eq_false_iff_ne.2 k6
  obtain ⟨n, hn⟩ : ∃ n, n = nweeks c y := ⟨_, rfl⟩
  obtain ⟨m, hm'⟩ : ∃ m, m = nweeks c t := ⟨_, rfl⟩
  have nb := (nweeks_01 ok.1 k6 (y := y) (by omega) (by omega)).1
  have mb := (nweeks_01 ok.1 k6 (y := t) (by omega) (by omega)).1
  have cn := fun w => rWeeks_any c y n 0 w (.inl ⟨ok, k6, by omega, by omega, hn, rfl⟩) K
  have cm := fun w => rWeeks_any c t m 0 w (.inl ⟨ok, k6, by omega, by omega, hm', rfl⟩) K
  rw [← hn] at x1 nb
  rw [← hm'] at mb
  have x2 : x ≤ 60 := by omega
  have p1 : (c.po == 1) = false := beq_eq_false_iff_ne.2 (by omega)
  have p2 : (c.po == 2) = false := beq_eq_false_iff_ne.2 (by omega)
  have ay := addw_bd ok k6 (y := y) (by omega) (by omega)
  have at' := addw_bd ok k6 (y := t) (by omega) (by omega)
  obtain ⟨a, ha⟩ : ∃ a, addw c y = a := ⟨_, rfl⟩
  obtain ⟨b, hb0⟩ : ∃ b, addw c t = b := ⟨_, rfl⟩
  have ca := fun w T => rAdded_any c y a 0 w (by rw [← ha]; exact added_is ok k6 (by omega) (by omega)) K hm T
  have cb := fun w T => rAdded_any c t b 0 w (by rw [← hb0]; exact added_is ok k6 (by omega) (by omega)) K hm T
  rw [ha] at ay D
  rw [hb0] at at' D
  have ab : 0 ≤ a ∧ a ≤ 53 := by omega
  have bb : 0 ≤ b ∧ b ≤ 53 := by omega
  clear ay at' ha hb0
  have xa : (x == a) = false := beq_eq_false_iff_ne.2 D.1
  have f1 : decide ((0 : Int) < a) = true := decide_eq_true D.2.1.1
  have f2 : decide (a < x) = false := decide_eq_false D.2.1.2
  have di := dropa_is a b x
  rw [← D.2.2] at di
  have v0 : 1 ≤ v := by omega
  have HC : Hid (∀ k : Nat, (k : Int) + 1 ≤ v → 0 ≤ cnt (x - 1) b k ∧ cnt (x - 1) b k ≤ 60 ∧ (((k : Int) + 1 = b ∧ (k : Int) + 1 < v ∧ cnt (x - 1) b (k + 1) = cnt (x - 1) b k) ∨ ((k : Int) + 1 ≠ b ∧ (k : Int) + 1 < v ∧ cnt (x - 1) b k ≠ 0 ∧ cnt (x - 1) b (k + 1) = cnt (x - 1) b k - 1) ∨ ((k : Int) + 1 ≠ b ∧ (k : Int) + 1 = v ∧ cnt (x - 1) b k = 0))) :=
    Lib.hid (fun k hk => cnt_step (x - 1) b v k (by omega) (by omega) (by omega) hk)
  have vb : v ≤ 70 := by omega
  clear D di
  clear ok k6 sy st hn hm' by' bt po K nb mb
  go_enter Tryz.func63, Tryz.ntmps63
  go_upto_region 1 with fail
  generalize w.alloc (.cells #[.string c.nm, .int .i64 c.k, .int .i64 c.d, .int .i64 c.m, .int .i64 c.s, .int .i64 c.sh, .int .i64 c.p0, .int .i64 c.p1, .int .i64 c.p2, .int .i64 c.cy, .int .i64 c.ex, .int .i64 c.fi, .int .i64 c.la, .int .i64 c.po] 24) = W0 at *
  obtain ⟨_, c0, c1, c2, c3, c4, c5, c6, c7, c8, c9, c10, c11, c12, c13⟩ := id C
  go_wp2_with fail
  refine (ck _).mono ?_
  rintro e w1 ⟨rfl, hb⟩
  replace C := C.kept hb
  replace B := bthen B hb
  replace T := T.kept hb
  clear hb c0 c1 c2 c3 c4 c5 c6 c7 c8 c9 c10 c11 c12 c13 
  obtain ⟨_, c0, c1, c2, c3, c4, c5, c6, c7, c8, c9, c10, c11, c12, c13⟩ := id C
  go_wp2_with fail
  refine (cy _).mono ?_
  rintro e w2 ⟨rfl, hb⟩
  replace C := C.kept hb
  replace B := bthen B hb
  replace T := T.kept hb
  clear hb c0 c1 c2 c3 c4 c5 c6 c7 c8 c9 c10 c11 c12 c13 
  obtain ⟨_, c0, c1, c2, c3, c4, c5, c6, c7, c8, c9, c10, c11, c12, c13⟩ := id C
  go_wp2_with fail
  refine (ct _).mono ?_
  rintro e w3 ⟨rfl, hb⟩
  replace C := C.kept hb
  replace B := bthen B hb
  replace T := T.kept hb
  clear hb c0 c1 c2 c3 c4 c5 c6 c7 c8 c9 c10 c11 c12 c13 
  obtain ⟨_, c0, c1, c2, c3, c4, c5, c6, c7, c8, c9, c10, c11, c12, c13⟩ := id C
  go_wp2_with fail
  refine (cn _).mono ?_
  rintro e w4 ⟨rfl, hb⟩
  replace C := C.kept hb
  replace B := bthen B hb
  replace T := T.kept hb
  clear hb c0 c1 c2 c3 c4 c5 c6 c7 c8 c9 c10 c11 c12 c13 
  obtain ⟨_, c0, c1, c2, c3, c4, c5, c6, c7, c8, c9, c10, c11, c12, c13⟩ := id C
  go_wp2_with fail
  refine (cm _).mono ?_
  rintro e w5 ⟨rfl, hb⟩
  replace C := C.kept hb
  replace B := bthen B hb
  replace T := T.kept hb
  clear hb c0 c1 c2 c3 c4 c5 c6 c7 c8 c9 c10 c11 c12 c13 
  obtain ⟨_, c0, c1, c2, c3, c4, c5, c6, c7, c8, c9, c10, c11, c12, c13⟩ := id C
  go_wp2_with fail
  refine (ca _ T).mono ?_
  rintro e w6 ⟨rfl, hb⟩
  replace C := C.kept hb
  replace B := bthen B hb
  replace T := T.kept hb
  clear hb c0 c1 c2 c3 c4 c5 c6 c7 c8 c9 c10 c11 c12 c13 
  obtain ⟨_, c0, c1, c2, c3, c4, c5, c6, c7, c8, c9, c10, c11, c12, c13⟩ := id C
  go_wp2_with fail
  refine (cb _ T).mono ?_
  rintro e w7 ⟨rfl, hb⟩
  replace C := C.kept hb
  replace B := bthen B hb
  replace T := T.kept hb
  clear hb c0 c1 c2 c3 c4 c5 c6 c7 c8 c9 c10 c11 c12 c13 
  obtain ⟨_, c0, c1, c2, c3, c4, c5, c6, c7, c8, c9, c10, c11, c12, c13⟩ := id C
  clear ck cy ct cn cm ca cb
  have C0 := cnt_zero (x - 1) b
  have H0 := Lib.hid C0
  clear C0
  go_wp2
  go_loopw [18, 19] (fun A V wr => ∃ k : Nat, (k : Int) + 1 ≤ v ∧ V = .int .i64 ((k : Int) + 1) ∧ A = .int .i64 (cnt (x - 1) b k) ∧ Below w7.heap.size w7 wr) (fun _ V _ => (v - intOf V).toNat)
  case atStart => exact ⟨0, by omega, rfl, by have h := H0.out; rw [h]; try rfl; try (congr 1; omega), Below.refl _ _⟩
  case round =>
    obtain ⟨k, kM, rfl, rfl, B2⟩ := hrel
    obtain ⟨c0, c1, OO⟩ := HC.out k kM
    obtain ⟨p, hp⟩ : ∃ p, cnt (x - 1) b k = p := ⟨_, rfl⟩
    rw [hp] at c0 c1 OO
    rw [hp]
    have k60 : (k : Int) ≤ 70 := by omega
    rcases OO with ⟨q1, q2, q3⟩ | ⟨q1, q2, q4, q3⟩ | ⟨q1, q2, q4⟩
    · have HQ := Lib.hid (And.intro q3 hp)
      have HK := Lib.hid q2
      have d1 : ((k : Int) + 1 == b) = true := beq_iff_eq.2 q1
      clear q1 q2 q3 hp
      go_wp2
      go_roundw
      case rel => exact ⟨k + 1, by have := HK.out; omega, by go_num, by rw [HQ.out.1], B2⟩
      case measure => have := HK.out; simp [intOf]; omega
    · have HQ := Lib.hid (And.intro q3 hp)
      have HK := Lib.hid q2
      have d1 : ((k : Int) + 1 == b) = false := beq_eq_false_iff_ne.2 q1
      have d2 : (p == 0) = false := beq_eq_false_iff_ne.2 q4
      clear q1 q2 q3 q4 hp
      go_wp2
      go_roundw
      case rel => exact ⟨k + 1, by have := HK.out; omega, by go_num, by rw [HQ.out.1], B2⟩
      case measure => have := HK.out; simp [intOf]; omega
    · have d1 : ((k : Int) + 1 == b) = false := beq_eq_false_iff_ne.2 q1
      have d2 : (p == 0) = true := beq_iff_eq.2 q4
      have HK := Lib.hid q2
      clear q1 q2 q4 hp
      go_wp2
      go_ret2
      exact ⟨by simp [HK.out], bthen B B2⟩

set_option maxRecDepth 100000 in
theorem rweek_ns (c : CalZ) (y t x : Int) (w : World) (ok : CalOk c) (k6 : c.k ≠ 6) (ns : ¬ (Served c y ∧ Served c t)) (K : ChkSays c) (hm : c.nm.size ≤ maxLen) (T : FTab w) :
    Calls Tryz.prog 63 #[.agg #[.string c.nm, .int .i64 c.k, .int .i64 c.d, .int .i64 c.m, .int .i64 c.s, .int .i64 c.sh, .int .i64 c.p0, .int .i64 c.p1, .int .i64 c.p2, .int .i64 c.cy, .int .i64 c.ex, .int .i64 c.fi, .int .i64 c.la, .int .i64 c.po], .int .i64 y, .int .i64 t, .int .i64 x] w fun e w' => e = .returned (.tuple #[.int .i64 0, .int .i64 11]) ∧ Below w.heap.size w w' := by
  have C := CalIn.new w c 24
  have B := balloc (Below.refl _ w) (.cells #[.string c.nm, .int .i64 c.k, .int .i64 c.d, .int .i64 c.m, .int .i64 c.s, .int .i64 c.sh, .int .i64 c.p0, .int .i64 c.p1, .int .i64 c.p2, .int .i64 c.cy, .int .i64 c.ex, .int .i64 c.fi, .int .i64 c.la, .int .i64 c.po] 24)
  replace T := T.alloc (.cells #[.string c.nm, .int .i64 c.k, .int .i64 c.d, .int .i64 c.m, .int .i64 c.s, .int .i64 c.sh, .int .i64 c.p0, .int .i64 c.p1, .int .i64 c.p2, .int .i64 c.cy, .int .i64 c.ex, .int .i64 c.fi, .int .i64 c.la, .int .i64 c.po] 24)
  have ck := fun w => K 0 w (.inl ⟨ok, rfl⟩)
  have d6 : (c.k == 6) = false := beq_eq_false_iff_ne.2 k6
  by_cases sy : Served c y
  · have st : ¬ Served c t := fun q => ns ⟨sy, q⟩
    have cy := fun w => rserved_any c y true w (.inl ⟨rfl, sy⟩)
    have ct := fun w => rserved_any c t false w (.inr ⟨rfl, st⟩)
    clear ok k6 ns sy st
    go_enter Tryz.func63, Tryz.ntmps63
    go_upto_region 1 with fail
    generalize w.alloc (.cells #[.string c.nm, .int .i64 c.k, .int .i64 c.d, .int .i64 c.m, .int .i64 c.s, .int .i64 c.sh, .int .i64 c.p0, .int .i64 c.p1, .int .i64 c.p2, .int .i64 c.cy, .int .i64 c.ex, .int .i64 c.fi, .int .i64 c.la, .int .i64 c.po] 24) = W0 at *
    obtain ⟨_, c0, c1, c2, c3, c4, c5, c6, c7, c8, c9, c10, c11, c12, c13⟩ := id C
    go_wp2_with fail
    refine (ck _).mono ?_
    rintro e w1 ⟨rfl, hb⟩
    replace C := C.kept hb
    replace B := bthen B hb
    replace T := T.kept hb
    clear hb c0 c1 c2 c3 c4 c5 c6 c7 c8 c9 c10 c11 c12 c13 
    obtain ⟨_, c0, c1, c2, c3, c4, c5, c6, c7, c8, c9, c10, c11, c12, c13⟩ := id C
    go_wp2_with fail
    refine (cy _).mono ?_
    rintro e w2 ⟨rfl, hb⟩
    replace C := C.kept hb
    replace B := bthen B hb
    replace T := T.kept hb
    clear hb c0 c1 c2 c3 c4 c5 c6 c7 c8 c9 c10 c11 c12 c13 
    obtain ⟨_, c0, c1, c2, c3, c4, c5, c6, c7, c8, c9, c10, c11, c12, c13⟩ := id C
    go_wp2_with fail
    refine (ct _).mono ?_
    rintro e w3 ⟨rfl, hb⟩
    replace C := C.kept hb
    replace B := bthen B hb
    replace T := T.kept hb
    clear hb c0 c1 c2 c3 c4 c5 c6 c7 c8 c9 c10 c11 c12 c13 
    obtain ⟨_, c0, c1, c2, c3, c4, c5, c6, c7, c8, c9, c10, c11, c12, c13⟩ := id C
    go_wp2
    go_ret2
    exact ⟨by simp, B⟩
  · have cy := fun w => rserved_any c y false w (.inr ⟨rfl, sy⟩)
    clear ok k6 ns sy
    go_enter Tryz.func63, Tryz.ntmps63
    go_upto_region 1 with fail
    generalize w.alloc (.cells #[.string c.nm, .int .i64 c.k, .int .i64 c.d, .int .i64 c.m, .int .i64 c.s, .int .i64 c.sh, .int .i64 c.p0, .int .i64 c.p1, .int .i64 c.p2, .int .i64 c.cy, .int .i64 c.ex, .int .i64 c.fi, .int .i64 c.la, .int .i64 c.po] 24) = W0 at *
    obtain ⟨_, c0, c1, c2, c3, c4, c5, c6, c7, c8, c9, c10, c11, c12, c13⟩ := id C
    go_wp2_with fail
    refine (ck _).mono ?_
    rintro e w4 ⟨rfl, hb⟩
    replace C := C.kept hb
    replace B := bthen B hb
    replace T := T.kept hb
    clear hb c0 c1 c2 c3 c4 c5 c6 c7 c8 c9 c10 c11 c12 c13 
    obtain ⟨_, c0, c1, c2, c3, c4, c5, c6, c7, c8, c9, c10, c11, c12, c13⟩ := id C
    go_wp2_with fail
    refine (cy _).mono ?_
    rintro e w5 ⟨rfl, hb⟩
    replace C := C.kept hb
    replace B := bthen B hb
    replace T := T.kept hb
    clear hb c0 c1 c2 c3 c4 c5 c6 c7 c8 c9 c10 c11 c12 c13 
    obtain ⟨_, c0, c1, c2, c3, c4, c5, c6, c7, c8, c9, c10, c11, c12, c13⟩ := id C
    go_wp2
    go_ret2
    exact ⟨by simp, B⟩

set_option maxRecDepth 100000 in
theorem rweek_nx (c : CalZ) (y t x : Int) (w : World) (ok : CalOk c) (k6 : c.k ≠ 6) (sy : Served c y) (st : Served c t) (nx : ¬ (1 ≤ x ∧ x ≤ nweeks c y)) (K : ChkSays c) (hm : c.nm.size ≤ maxLen) (T : FTab w) :
    Calls Tryz.prog 63 #[.agg #[.string c.nm, .int .i64 c.k, .int .i64 c.d, .int .i64 c.m, .int .i64 c.s, .int .i64 c.sh, .int .i64 c.p0, .int .i64 c.p1, .int .i64 c.p2, .int .i64 c.cy, .int .i64 c.ex, .int .i64 c.fi, .int .i64 c.la, .int .i64 c.po], .int .i64 y, .int .i64 t, .int .i64 x] w fun e w' => e = .returned (.tuple #[.int .i64 0, .int .i64 13]) ∧ Below w.heap.size w w' := by
  have C := CalIn.new w c 24
  have B := balloc (Below.refl _ w) (.cells #[.string c.nm, .int .i64 c.k, .int .i64 c.d, .int .i64 c.m, .int .i64 c.s, .int .i64 c.sh, .int .i64 c.p0, .int .i64 c.p1, .int .i64 c.p2, .int .i64 c.cy, .int .i64 c.ex, .int .i64 c.fi, .int .i64 c.la, .int .i64 c.po] 24)
  replace T := T.alloc (.cells #[.string c.nm, .int .i64 c.k, .int .i64 c.d, .int .i64 c.m, .int .i64 c.s, .int .i64 c.sh, .int .i64 c.p0, .int .i64 c.p1, .int .i64 c.p2, .int .i64 c.cy, .int .i64 c.ex, .int .i64 c.fi, .int .i64 c.la, .int .i64 c.po] 24)
  have ck := fun w => K 0 w (.inl ⟨ok, rfl⟩)
  have cy := fun w => rserved_any c y true w (.inl ⟨rfl, sy⟩)
  have ct := fun w => rserved_any c t true w (.inl ⟨rfl, st⟩)
  have by' := served_told ok sy
  have bt := served_told ok st
  have d6 : (c.k == 6) = false := beq_eq_false_iff_ne.2 k6
  obtain ⟨n, hn⟩ : ∃ n, n = nweeks c y := ⟨_, rfl⟩
  obtain ⟨m, hm'⟩ : ∃ m, m = nweeks c t := ⟨_, rfl⟩
  have nb := (nweeks_01 ok.1 k6 (y := y) (by omega) (by omega)).1
  have mb := (nweeks_01 ok.1 k6 (y := t) (by omega) (by omega)).1
  have cn := fun w => rWeeks_any c y n 0 w (.inl ⟨ok, k6, by omega, by omega, hn, rfl⟩) K
  have cm := fun w => rWeeks_any c t m 0 w (.inl ⟨ok, k6, by omega, by omega, hm', rfl⟩) K
  rw [← hn] at nx nb
  by_cases x0 : x < 1
  · clear ok k6 sy st hn hm' by' bt nx K mb
    go_enter Tryz.func63, Tryz.ntmps63
    go_upto_region 1 with fail
    generalize w.alloc (.cells #[.string c.nm, .int .i64 c.k, .int .i64 c.d, .int .i64 c.m, .int .i64 c.s, .int .i64 c.sh, .int .i64 c.p0, .int .i64 c.p1, .int .i64 c.p2, .int .i64 c.cy, .int .i64 c.ex, .int .i64 c.fi, .int .i64 c.la, .int .i64 c.po] 24) = W0 at *
    obtain ⟨_, c0, c1, c2, c3, c4, c5, c6, c7, c8, c9, c10, c11, c12, c13⟩ := id C
    go_wp2_with fail
    refine (ck _).mono ?_
    rintro e w1 ⟨rfl, hb⟩
    replace C := C.kept hb
    replace B := bthen B hb
    replace T := T.kept hb
    clear hb c0 c1 c2 c3 c4 c5 c6 c7 c8 c9 c10 c11 c12 c13 
    obtain ⟨_, c0, c1, c2, c3, c4, c5, c6, c7, c8, c9, c10, c11, c12, c13⟩ := id C
    go_wp2_with fail
    refine (cy _).mono ?_
    rintro e w2 ⟨rfl, hb⟩
    replace C := C.kept hb
    replace B := bthen B hb
    replace T := T.kept hb
    clear hb c0 c1 c2 c3 c4 c5 c6 c7 c8 c9 c10 c11 c12 c13 
    obtain ⟨_, c0, c1, c2, c3, c4, c5, c6, c7, c8, c9, c10, c11, c12, c13⟩ := id C
    go_wp2_with fail
    refine (ct _).mono ?_
    rintro e w3 ⟨rfl, hb⟩
    replace C := C.kept hb
    replace B := bthen B hb
    replace T := T.kept hb
    clear hb c0 c1 c2 c3 c4 c5 c6 c7 c8 c9 c10 c11 c12 c13 
    obtain ⟨_, c0, c1, c2, c3, c4, c5, c6, c7, c8, c9, c10, c11, c12, c13⟩ := id C
    go_wp2_with fail
    refine (cn _).mono ?_
    rintro e w4 ⟨rfl, hb⟩
    replace C := C.kept hb
    replace B := bthen B hb
    replace T := T.kept hb
    clear hb c0 c1 c2 c3 c4 c5 c6 c7 c8 c9 c10 c11 c12 c13 
    obtain ⟨_, c0, c1, c2, c3, c4, c5, c6, c7, c8, c9, c10, c11, c12, c13⟩ := id C
    go_wp2_with fail
    refine (cm _).mono ?_
    rintro e w5 ⟨rfl, hb⟩
    replace C := C.kept hb
    replace B := bthen B hb
    replace T := T.kept hb
    clear hb c0 c1 c2 c3 c4 c5 c6 c7 c8 c9 c10 c11 c12 c13 
    obtain ⟨_, c0, c1, c2, c3, c4, c5, c6, c7, c8, c9, c10, c11, c12, c13⟩ := id C
    go_wp2
    go_ret2
    exact ⟨by simp, B⟩
  · have x1 : n < x := by omega
    clear ok k6 sy st hn hm' by' bt nx K mb
    go_enter Tryz.func63, Tryz.ntmps63
    go_upto_region 1 with fail
    generalize w.alloc (.cells #[.string c.nm, .int .i64 c.k, .int .i64 c.d, .int .i64 c.m, .int .i64 c.s, .int .i64 c.sh, .int .i64 c.p0, .int .i64 c.p1, .int .i64 c.p2, .int .i64 c.cy, .int .i64 c.ex, .int .i64 c.fi, .int .i64 c.la, .int .i64 c.po] 24) = W0 at *
    obtain ⟨_, c0, c1, c2, c3, c4, c5, c6, c7, c8, c9, c10, c11, c12, c13⟩ := id C
    go_wp2_with fail
    refine (ck _).mono ?_
    rintro e w6 ⟨rfl, hb⟩
    replace C := C.kept hb
    replace B := bthen B hb
    replace T := T.kept hb
    clear hb c0 c1 c2 c3 c4 c5 c6 c7 c8 c9 c10 c11 c12 c13 
    obtain ⟨_, c0, c1, c2, c3, c4, c5, c6, c7, c8, c9, c10, c11, c12, c13⟩ := id C
    go_wp2_with fail
    refine (cy _).mono ?_
    rintro e w7 ⟨rfl, hb⟩
    replace C := C.kept hb
    replace B := bthen B hb
    replace T := T.kept hb
    clear hb c0 c1 c2 c3 c4 c5 c6 c7 c8 c9 c10 c11 c12 c13 
    obtain ⟨_, c0, c1, c2, c3, c4, c5, c6, c7, c8, c9, c10, c11, c12, c13⟩ := id C
    go_wp2_with fail
    refine (ct _).mono ?_
    rintro e w8 ⟨rfl, hb⟩
    replace C := C.kept hb
    replace B := bthen B hb
    replace T := T.kept hb
    clear hb c0 c1 c2 c3 c4 c5 c6 c7 c8 c9 c10 c11 c12 c13 
    obtain ⟨_, c0, c1, c2, c3, c4, c5, c6, c7, c8, c9, c10, c11, c12, c13⟩ := id C
    go_wp2_with fail
    refine (cn _).mono ?_
    rintro e w9 ⟨rfl, hb⟩
    replace C := C.kept hb
    replace B := bthen B hb
    replace T := T.kept hb
    clear hb c0 c1 c2 c3 c4 c5 c6 c7 c8 c9 c10 c11 c12 c13 
    obtain ⟨_, c0, c1, c2, c3, c4, c5, c6, c7, c8, c9, c10, c11, c12, c13⟩ := id C
    go_wp2_with fail
    refine (cm _).mono ?_
    rintro e w10 ⟨rfl, hb⟩
    replace C := C.kept hb
    replace B := bthen B hb
    replace T := T.kept hb
    clear hb c0 c1 c2 c3 c4 c5 c6 c7 c8 c9 c10 c11 c12 c13 
    obtain ⟨_, c0, c1, c2, c3, c4, c5, c6, c7, c8, c9, c10, c11, c12, c13⟩ := id C
    go_wp2
    go_ret2
    exact ⟨by simp, B⟩

set_option maxRecDepth 100000 in
theorem rweek_no (c : CalZ) (y t x : Int) (w : World) (h : (CalOk c ∧ c.k = 6) ∨ ¬ CalOk c) (K : ChkSays c) (hm : c.nm.size ≤ maxLen) (T : FTab w) :
    Calls Tryz.prog 63 #[.agg #[.string c.nm, .int .i64 c.k, .int .i64 c.d, .int .i64 c.m, .int .i64 c.s, .int .i64 c.sh, .int .i64 c.p0, .int .i64 c.p1, .int .i64 c.p2, .int .i64 c.cy, .int .i64 c.ex, .int .i64 c.fi, .int .i64 c.la, .int .i64 c.po], .int .i64 y, .int .i64 t, .int .i64 x] w fun e w' => e = .returned (.tuple #[.int .i64 0, .int .i64 1]) ∧ Below w.heap.size w w' := by
  have C := CalIn.new w c 24
  have B := balloc (Below.refl _ w) (.cells #[.string c.nm, .int .i64 c.k, .int .i64 c.d, .int .i64 c.m, .int .i64 c.s, .int .i64 c.sh, .int .i64 c.p0, .int .i64 c.p1, .int .i64 c.p2, .int .i64 c.cy, .int .i64 c.ex, .int .i64 c.fi, .int .i64 c.la, .int .i64 c.po] 24)
  replace T := T.alloc (.cells #[.string c.nm, .int .i64 c.k, .int .i64 c.d, .int .i64 c.m, .int .i64 c.s, .int .i64 c.sh, .int .i64 c.p0, .int .i64 c.p1, .int .i64 c.p2, .int .i64 c.cy, .int .i64 c.ex, .int .i64 c.fi, .int .i64 c.la, .int .i64 c.po] 24)
  rcases h with ⟨ok, k6⟩ | no
  · have ck := fun w => K 0 w (.inl ⟨ok, rfl⟩)
    have d6 : (c.k == 6) = true := by rw [k6]; rfl
    clear ok k6
    go_enter Tryz.func63, Tryz.ntmps63
    go_upto_region 1 with fail
    generalize w.alloc (.cells #[.string c.nm, .int .i64 c.k, .int .i64 c.d, .int .i64 c.m, .int .i64 c.s, .int .i64 c.sh, .int .i64 c.p0, .int .i64 c.p1, .int .i64 c.p2, .int .i64 c.cy, .int .i64 c.ex, .int .i64 c.fi, .int .i64 c.la, .int .i64 c.po] 24) = W0 at *
    obtain ⟨_, c0, c1, c2, c3, c4, c5, c6, c7, c8, c9, c10, c11, c12, c13⟩ := id C
    go_wp2_with fail
    refine (ck _).mono ?_
    rintro e w1 ⟨rfl, hb⟩
    replace C := C.kept hb
    replace B := bthen B hb
    replace T := T.kept hb
    clear hb c0 c1 c2 c3 c4 c5 c6 c7 c8 c9 c10 c11 c12 c13 
    obtain ⟨_, c0, c1, c2, c3, c4, c5, c6, c7, c8, c9, c10, c11, c12, c13⟩ := id C
    go_wp2
    go_ret2
    exact ⟨by simp, B⟩
  · have ck := fun w => K 1 w (.inr ⟨no, rfl⟩)
    clear no
    go_enter Tryz.func63, Tryz.ntmps63
    go_upto_region 1 with fail
    generalize w.alloc (.cells #[.string c.nm, .int .i64 c.k, .int .i64 c.d, .int .i64 c.m, .int .i64 c.s, .int .i64 c.sh, .int .i64 c.p0, .int .i64 c.p1, .int .i64 c.p2, .int .i64 c.cy, .int .i64 c.ex, .int .i64 c.fi, .int .i64 c.la, .int .i64 c.po] 24) = W0 at *
    obtain ⟨_, c0, c1, c2, c3, c4, c5, c6, c7, c8, c9, c10, c11, c12, c13⟩ := id C
    go_wp2_with fail
    refine (ck _).mono ?_
    rintro e w2 ⟨rfl, hb⟩
    replace C := C.kept hb
    replace B := bthen B hb
    replace T := T.kept hb
    clear hb c0 c1 c2 c3 c4 c5 c6 c7 c8 c9 c10 c11 c12 c13 
    obtain ⟨_, c0, c1, c2, c3, c4, c5, c6, c7, c8, c9, c10, c11, c12, c13⟩ := id C
    go_wp2
    go_ret2
    exact ⟨by simp, B⟩

theorem rWeek_any (c : CalZ) (y t x v er : Int) (w : World) (R : CWeekA c y t x v er) (K : ChkSays c) (hm : c.nm.size ≤ maxLen) (T : FTab w) :
    Calls Tryz.prog 63 #[.agg #[.string c.nm, .int .i64 c.k, .int .i64 c.d, .int .i64 c.m, .int .i64 c.s, .int .i64 c.sh, .int .i64 c.p0, .int .i64 c.p1, .int .i64 c.p2, .int .i64 c.cy, .int .i64 c.ex, .int .i64 c.fi, .int .i64 c.la, .int .i64 c.po], .int .i64 y, .int .i64 t, .int .i64 x] w fun e w' => e = .returned (.tuple #[.int .i64 v, .int .i64 er]) ∧ Below w.heap.size w w' := by
  rcases R with ⟨ok, k6, sy, st, x0, x1, P⟩ | ⟨ok, k6, ns, rfl, rfl⟩ | ⟨ok, k6, sy, st, nx, rfl, rfl⟩ | ⟨ok, k6, rfl, rfl⟩ | ⟨no, rfl, rfl⟩
  · rcases P with ⟨po, hv, rfl⟩ | ⟨po, hv, rfl⟩ | ⟨po, ⟨h1, h2, rfl, rfl⟩ | ⟨h1, h2, h3, rfl⟩ | ⟨h1, h2, rfl⟩⟩
    · rw [hv]; exact rweek_1 c y t x w ok k6 sy st x0 x1 po K hm T
    · exact rweek_2 c y t x v hv w ok k6 sy st x0 x1 po K hm T
    · exact rweek_3a c y t x w ok k6 sy st x0 x1 po ⟨h1, h2⟩ K hm T
    · exact rweek_3b c y t x v w ok k6 sy st x0 x1 po ⟨h1, h2, h3⟩ K hm T
    · by_cases a0 : 0 < addw c y
      · by_cases a1 : addw c y < x
        · exact rweek_3c c y t x v w ok k6 sy st x0 x1 po ⟨h1, ⟨a0, a1⟩, h2⟩ K hm T
        · exact rweek_3e c y t x v w ok k6 sy st x0 x1 po ⟨h1, ⟨a0, a1⟩, h2⟩ K hm T
      · exact rweek_3d c y t x v w ok k6 sy st x0 x1 po ⟨h1, a0, h2⟩ K hm T
  · exact rweek_ns c y t x w ok k6 ns K hm T
  · exact rweek_nx c y t x w ok k6 sy st nx K hm T
  · exact rweek_no c y t x w (.inl ⟨ok, k6⟩) K hm T
  · exact rweek_no c y t x w (.inr no) K hm T

end Go.Proofs.YtkfogmaogfgcgaaGreatDoor.Mr

