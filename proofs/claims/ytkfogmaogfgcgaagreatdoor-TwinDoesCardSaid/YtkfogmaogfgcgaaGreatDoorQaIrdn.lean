/- What Down of the reference of layer 16 comes to. -/
import Derived.Test.YtkfogmaogfgcgaaGreatDoorQaIrup
import Derived.Test.YtkfogmaogfgcgaaGreatDoorQaJIc
import Derived.BigRegion
namespace Go.Proofs.YtkfogmaogfgcgaaGreatDoor.Ir
set_option linter.unusedSimpArgs false
set_option linter.unusedVariables false
open Go.RowKit Go.Maps Bn Bx Cp Am Fp Ap Ar Cm Em Ep Rk Hp Hr Ip

set_option maxHeartbeats 8000000

def fiD (r : Int) (k : Nat) : Int := if (k : Int) < r then 0 else r
def laD (r s : Int) (k : Nat) : Int := if (k : Int) < r then 0 else if (k : Int) < s then k else s
theorem down_ends {c : CalZ} {L q i p r s : Int} (uo : UnitOk c L q i) (m0 : L ≤ p) (m1 : p ≤ 5) (hr : InU c q p (uend c q L (i - 1) + 1) r) (hs : InU c q p (uend c q L i) s) :
    uend c q p (r - 1) = uend c q L (i - 1) ∧ uend c q p s = uend c q L i ∧ r ≤ s := by
  obtain ⟨_, d1, _, y0, y1, L0, L5⟩ := unit_days uo
  have k := uo.1.1
  have lM : LevOk p := ⟨by omega, m1⟩
  have i0 := uo.2.2.2.1
  have i1 := uo.2.2.2.2
  obtain ⟨r0, r1, r2, r3⟩ := hr
  obtain ⟨s0, s1, s2, s3⟩ := hs
  obtain ⟨j, j0, j1, je⟩ := edge k y0 y1 L0 m1 m0 (i := i - 1) (by omega) (by omega)
  obtain ⟨l, l0, l1, le⟩ := edge k y0 y1 L0 m1 m0 (i := i) (by omega) i1
  have e1 : j = r - 1 := by
    rcases Int.lt_trichotomy j (r - 1) with h | h | h
    · have := uend_mono k y0 y1 lM (a := j) (b := r - 1) j0 (by omega) (by omega); omega
    · exact h
    · have := uend_mono k y0 y1 lM (a := r) (b := j) (by omega) (by omega) j1; omega
  have e2 : l = s := by
    rcases Int.lt_trichotomy l s with h | h | h
    · have := uend_mono k y0 y1 lM (a := l) (b := s - 1) l0 (by omega) (by omega); omega
    · exact h
    · have := uend_mono k y0 y1 lM (a := s) (b := l) (by omega) (by omega) l1; omega
  refine ⟨by rw [← e1]; exact je, by rw [← e2]; exact le, ?_⟩
  by_cases h : r ≤ s
  · exact h
  · have := uend_mono k y0 y1 lM (a := s) (b := r - 1) (by omega) (by omega) (by omega)
    subst e1 e2
    omega
theorem down_step (r s : Int) (k : Nat) (r0 : 1 ≤ r) (rs : r ≤ s) :
    (((k : Int) + 1 < r ∨ s < (k : Int) + 1) ∧ fiD r (k + 1) = fiD r k ∧ laD r s (k + 1) = laD r s k) ∨ (r ≤ (k : Int) + 1 ∧ (k : Int) + 1 ≤ s ∧ fiD r k = 0 ∧ fiD r (k + 1) = (k : Int) + 1 ∧ laD r s (k + 1) = (k : Int) + 1) ∨ (r ≤ (k : Int) + 1 ∧ (k : Int) + 1 ≤ s ∧ fiD r k ≠ 0 ∧ fiD r (k + 1) = fiD r k ∧ laD r s (k + 1) = (k : Int) + 1) := by
  have fi : ∀ j : Nat, ((j : Int) < r ∧ fiD r j = 0) ∨ (¬ (j : Int) < r ∧ fiD r j = r) := fun j => by
    unfold fiD
    by_cases h : (j : Int) < r
    · exact .inl ⟨h, if_pos h⟩
    · exact .inr ⟨h, if_neg h⟩
  have la : ∀ j : Nat, ((j : Int) < r ∧ laD r s j = 0) ∨ (¬ (j : Int) < r ∧ (j : Int) < s ∧ laD r s j = j) ∨ (¬ (j : Int) < r ∧ ¬ (j : Int) < s ∧ laD r s j = s) := fun j => by
    unfold laD
    by_cases h : (j : Int) < r
    · exact .inl ⟨h, if_pos h⟩
    · by_cases g : (j : Int) < s
      · exact .inr (.inl ⟨h, g, by rw [if_neg h, if_pos g]⟩)
      · exact .inr (.inr ⟨h, g, by rw [if_neg h, if_neg g]⟩)
  have f0 := fi k
  have f1 := fi (k + 1)
  have l0 := la k
  have l1 := la (k + 1)
  omega

set_option maxRecDepth 100000 in
theorem rDown_ok (c : CalZ) (L q i p r s : Int) (w : World) (uo : UnitOk c L q i) (m0 : L ≤ p) (m1 : p ≤ 5) (hr : InU c q p (uend c q L (i - 1) + 1) r) (hs : InU c q p (uend c q L i) s) (K : ChkSays c) (hm : c.nm.size ≤ maxLen) (T : FTab w) :
    Calls Tryz.prog 106 #[.agg #[.string c.nm, .int .i64 c.k, .int .i64 c.d, .int .i64 c.m, .int .i64 c.s, .int .i64 c.sh, .int .i64 c.p0, .int .i64 c.p1, .int .i64 c.p2, .int .i64 c.cy, .int .i64 c.ex, .int .i64 c.fi, .int .i64 c.la, .int .i64 c.po], .agg #[.int .i64 L, .int .i64 q, .int .i64 i], .int .i64 p] w fun e w' => e = .returned (.tuple #[.agg #[.int .i64 p, .int .i64 q, .int .i64 r], .agg #[.int .i64 p, .int .i64 q, .int .i64 s], .int .i64 0]) ∧ Below w.heap.size w w' := by
  have C := CalIn.new w c 24
  have B := balloc (Below.refl _ w) (.cells #[.string c.nm, .int .i64 c.k, .int .i64 c.d, .int .i64 c.m, .int .i64 c.s, .int .i64 c.sh, .int .i64 c.p0, .int .i64 c.p1, .int .i64 c.p2, .int .i64 c.cy, .int .i64 c.ex, .int .i64 c.fi, .int .i64 c.la, .int .i64 c.po] 24)
  replace T := T.alloc (.cells #[.string c.nm, .int .i64 c.k, .int .i64 c.d, .int .i64 c.m, .int .i64 c.s, .int .i64 c.sh, .int .i64 c.p0, .int .i64 c.p1, .int .i64 c.p2, .int .i64 c.cy, .int .i64 c.ex, .int .i64 c.fi, .int .i64 c.la, .int .i64 c.po] 24)
  have U := Bx.Tri.new (w.alloc (.cells #[.string c.nm, .int .i64 c.k, .int .i64 c.d, .int .i64 c.m, .int .i64 c.s, .int .i64 c.sh, .int .i64 c.p0, .int .i64 c.p1, .int .i64 c.p2, .int .i64 c.cy, .int .i64 c.ex, .int .i64 c.fi, .int .i64 c.la, .int .i64 c.po] 24)) (.int .i64 L) (.int .i64 q) (.int .i64 i) 26
  rw [World.size_alloc] at U
  have D := Bx.Tri.new ((w.alloc (.cells #[.string c.nm, .int .i64 c.k, .int .i64 c.d, .int .i64 c.m, .int .i64 c.s, .int .i64 c.sh, .int .i64 c.p0, .int .i64 c.p1, .int .i64 c.p2, .int .i64 c.cy, .int .i64 c.ex, .int .i64 c.fi, .int .i64 c.la, .int .i64 c.po] 24)).alloc (.cells #[.int .i64 L, .int .i64 q, .int .i64 i] 26)) (.int .i64 0) (.int .i64 0) (.int .i64 0) 26
  have zz : ((w.alloc (.cells #[.string c.nm, .int .i64 c.k, .int .i64 c.d, .int .i64 c.m, .int .i64 c.s, .int .i64 c.sh, .int .i64 c.p0, .int .i64 c.p1, .int .i64 c.p2, .int .i64 c.cy, .int .i64 c.ex, .int .i64 c.fi, .int .i64 c.la, .int .i64 c.po] 24)).alloc (.cells #[.int .i64 L, .int .i64 q, .int .i64 i] 26)).heap.size = w.heap.size + 2 := by simp
  rw [zz] at D
  have VV := Bx.Tri.new (((w.alloc (.cells #[.string c.nm, .int .i64 c.k, .int .i64 c.d, .int .i64 c.m, .int .i64 c.s, .int .i64 c.sh, .int .i64 c.p0, .int .i64 c.p1, .int .i64 c.p2, .int .i64 c.cy, .int .i64 c.ex, .int .i64 c.fi, .int .i64 c.la, .int .i64 c.po] 24)).alloc (.cells #[.int .i64 L, .int .i64 q, .int .i64 i] 26)).alloc (.cells #[.int .i64 0, .int .i64 0, .int .i64 0] 26)) (.int .i64 0) (.int .i64 0) (.int .i64 0) 26
  have zz3 : (((w.alloc (.cells #[.string c.nm, .int .i64 c.k, .int .i64 c.d, .int .i64 c.m, .int .i64 c.s, .int .i64 c.sh, .int .i64 c.p0, .int .i64 c.p1, .int .i64 c.p2, .int .i64 c.cy, .int .i64 c.ex, .int .i64 c.fi, .int .i64 c.la, .int .i64 c.po] 24)).alloc (.cells #[.int .i64 L, .int .i64 q, .int .i64 i] 26)).alloc (.cells #[.int .i64 0, .int .i64 0, .int .i64 0] 26)).heap.size = w.heap.size + 3 := by simp
  rw [zz3] at VV
  replace U := (U.alloc (.cells #[.int .i64 0, .int .i64 0, .int .i64 0] 26)).alloc (.cells #[.int .i64 0, .int .i64 0, .int .i64 0] 26)
  replace D := D.alloc (.cells #[.int .i64 0, .int .i64 0, .int .i64 0] 26)
  replace C := ((C.alloc (.cells #[.int .i64 L, .int .i64 q, .int .i64 i] 26)).alloc (.cells #[.int .i64 0, .int .i64 0, .int .i64 0] 26)).alloc (.cells #[.int .i64 0, .int .i64 0, .int .i64 0] 26)
  replace B := balloc (balloc (balloc B (.cells #[.int .i64 L, .int .i64 q, .int .i64 i] 26)) (.cells #[.int .i64 0, .int .i64 0, .int .i64 0] 26)) (.cells #[.int .i64 0, .int .i64 0, .int .i64 0] 26)
  replace T := ((T.alloc (.cells #[.int .i64 L, .int .i64 q, .int .i64 i] 26)).alloc (.cells #[.int .i64 0, .int .i64 0, .int .i64 0] 26)).alloc (.cells #[.int .i64 0, .int .i64 0, .int .i64 0] 26)
  clear zz zz3
  have ud := unit_days uo
  obtain ⟨_, _, _, y0, y1, L0, L5⟩ := ud
  have de := down_ends uo m0 m1 hr hs
  have lM : LevOk p := ⟨by omega, m1⟩
  obtain ⟨a, ha⟩ : ∃ a, a = uend c q L (i - 1) + 1 := ⟨_, rfl⟩
  obtain ⟨b, hb'⟩ : ∃ b, b = uend c q L i := ⟨_, rfl⟩
  have cs := fun w T => rSpan_any c L q i a b 0 w (.inl ⟨uo, ha, hb', rfl⟩) K hm T
  have cb := ucount_bd (L := p) (y := q) uo.1.1 y0 y1
  have pb := per_bd uo.1.1
  obtain ⟨N, hN⟩ : ∃ N : Nat, (N : Int) = ucount c q p := ⟨(ucount c q p).toNat, by omega⟩
  obtain ⟨n, hn⟩ : ∃ n : Nat, (n : Int) = per c := ⟨(per c).toNat, by omega⟩
  have cl := fun w T => rspans_ok p c q n N w lM uo.1 uo.2.2.1 hn hN K hm T
  rw [← hN] at cb
  have l0 : decide (p < L) = false := decide_eq_false (by omega)
  have l1 : decide ((5 : Int) < p) = false := decide_eq_false (by omega)
  have rb : 1 ≤ r ∧ r ≤ s ∧ s ≤ (N : Int) := ⟨hr.1, de.2.2, by have := hs.2.1; omega⟩
  have HR : Hid (∀ k : Nat, k < N → ∃ f t : Int, (spl c q p N)[k]? = some (f, t) ∧ (((∀ w, Calls Tryz.prog 161 #[.agg #[.int .i64 f, .int .i64 t], .agg #[.int .i64 a, .int .i64 b]] w fun e w' => e = .returned (.bool false) ∧ Below w.heap.size w w') ∧ fiD r (k + 1) = fiD r k ∧ laD r s (k + 1) = laD r s k) ∨ ((∀ w, Calls Tryz.prog 161 #[.agg #[.int .i64 f, .int .i64 t], .agg #[.int .i64 a, .int .i64 b]] w fun e w' => e = .returned (.bool true) ∧ Below w.heap.size w w') ∧ fiD r k = 0 ∧ fiD r (k + 1) = (k : Int) + 1 ∧ laD r s (k + 1) = (k : Int) + 1) ∨ ((∀ w, Calls Tryz.prog 161 #[.agg #[.int .i64 f, .int .i64 t], .agg #[.int .i64 a, .int .i64 b]] w fun e w' => e = .returned (.bool true) ∧ Below w.heap.size w w') ∧ fiD r k ≠ 0 ∧ fiD r (k + 1) = fiD r k ∧ laD r s (k + 1) = (k : Int) + 1))) :=
    Lib.hid (fun k hk => by
      refine ⟨_, _, spl_at c q p N k hk, ?_⟩
      have yes : r ≤ (k : Int) + 1 → (k : Int) + 1 ≤ s → ∀ w, Calls Tryz.prog 161 #[.agg #[.int .i64 (uend c q p (k : Int) + 1), .int .i64 (uend c q p ((k : Int) + 1))], .agg #[.int .i64 a, .int .i64 b]] w fun e w' => e = .returned (.bool true) ∧ Below w.heap.size w w' := fun h1 h2 w => by
        have x1 := uend_mono uo.1.1 y0 y1 lM (a := r - 1) (b := (k : Int)) (by omega) (by omega) (by omega)
        have x2 := uend_mono uo.1.1 y0 y1 lM (a := (k : Int) + 1) (b := s) (by omega) (by omega) (by omega)
        exact rin_any _ _ a b true w (.inr ⟨decide_eq_true (by omega), decide_eq_true (by omega)⟩)
      rcases down_step r s k rb.1 rb.2.1 with ⟨h, h2, h3⟩ | ⟨h1, h2, h3⟩ | ⟨h1, h2, h3⟩
      · refine .inl ⟨fun w => ?_, h2, h3⟩
        rcases h with h | h
        · have x1 := uend_mono uo.1.1 y0 y1 lM (a := (k : Int)) (b := r - 1) (by omega) (by omega) (by omega)
          exact rin_any _ _ a b false w (.inl ⟨decide_eq_false (by omega), rfl⟩)
        · have x2 := uend_mono uo.1.1 y0 y1 lM (a := s) (b := (k : Int) + 1) (by omega) (by omega) (by omega)
          by_cases g : a ≤ uend c q p (k : Int) + 1
          · exact rin_any _ _ a b false w (.inr ⟨decide_eq_true g, decide_eq_false (by omega)⟩)
          · exact rin_any _ _ a b false w (.inl ⟨decide_eq_false g, rfl⟩)
      · exact .inr (.inl ⟨yes h1 h2, h3⟩)
      · exact .inr (.inr ⟨yes h1 h2, h3⟩))
  have HE : Hid (fiD r N = r ∧ laD r s N = s) := Lib.hid (by
    unfold fiD laD
    rw [if_neg (by omega), if_neg (by omega), if_neg (by omega)]
    exact ⟨rfl, rfl⟩)
  have H0 : Hid (fiD r 0 = 0 ∧ laD r s 0 = 0) := Lib.hid (by
    unfold fiD laD
    rw [if_pos (by omega), if_pos (by omega)]
    exact ⟨rfl, rfl⟩)
  clear uo de lM ha hb' hN hn hr hs K pb y0 y1 m0 m1 L0 L5 rb
  go_enter Tryz.func106, Tryz.ntmps106
  go_upto_region 1 with fail
  generalize (((w.alloc (.cells #[.string c.nm, .int .i64 c.k, .int .i64 c.d, .int .i64 c.m, .int .i64 c.s, .int .i64 c.sh, .int .i64 c.p0, .int .i64 c.p1, .int .i64 c.p2, .int .i64 c.cy, .int .i64 c.ex, .int .i64 c.fi, .int .i64 c.la, .int .i64 c.po] 24)).alloc (.cells #[.int .i64 L, .int .i64 q, .int .i64 i] 26)).alloc (.cells #[.int .i64 0, .int .i64 0, .int .i64 0] 26)).alloc (.cells #[.int .i64 0, .int .i64 0, .int .i64 0] 26) = W0 at *
  obtain ⟨_, c0, c1, c2, c3, c4, c5, c6, c7, c8, c9, c10, c11, c12, c13⟩ := id C
  obtain ⟨_, u0, u1, u2, fu0, fu1, fu2⟩ := id U
  obtain ⟨_, r0, r1, r2, g0, g1, g2⟩ := id D
  obtain ⟨_, n0, n1, n2, h0, h1, h2⟩ := id VV
  go_wp2_with fail
  refine (cs _ T).mono ?_
  rintro e w1 ⟨rfl, hb⟩
  replace C := C.kept hb
  replace B := bthen B hb
  replace T := T.kept hb
  replace U := U.kept hb
  replace D := D.kept hb
  replace VV := VV.kept hb
  clear hb c0 c1 c2 c3 c4 c5 c6 c7 c8 c9 c10 c11 c12 c13 u0 u1 u2 fu0 fu1 fu2 r0 r1 r2 g0 g1 g2 n0 n1 n2 h0 h1 h2
  obtain ⟨_, c0, c1, c2, c3, c4, c5, c6, c7, c8, c9, c10, c11, c12, c13⟩ := id C
  obtain ⟨_, u0, u1, u2, fu0, fu1, fu2⟩ := id U
  obtain ⟨_, r0, r1, r2, g0, g1, g2⟩ := id D
  obtain ⟨_, n0, n1, n2, h0, h1, h2⟩ := id VV
  have S := Pr.Two.new w1 (.int .i64 a) (.int .i64 b) 34
  replace C := C.alloc (.cells #[.int .i64 a, .int .i64 b] 34)
  replace T := T.alloc (.cells #[.int .i64 a, .int .i64 b] 34)
  replace U := U.alloc (.cells #[.int .i64 a, .int .i64 b] 34)
  replace D := D.alloc (.cells #[.int .i64 a, .int .i64 b] 34)
  replace VV := VV.alloc (.cells #[.int .i64 a, .int .i64 b] 34)
  replace B := balloc B (.cells #[.int .i64 a, .int .i64 b] 34)
  clear c0 c1 c2 c3 c4 c5 c6 c7 c8 c9 c10 c11 c12 c13 u0 u1 u2 fu0 fu1 fu2 r0 r1 r2 g0 g1 g2 n0 n1 n2 h0 h1 h2
  obtain ⟨_, c0, c1, c2, c3, c4, c5, c6, c7, c8, c9, c10, c11, c12, c13⟩ := id C
  obtain ⟨_, u0, u1, u2, fu0, fu1, fu2⟩ := id U
  obtain ⟨_, r0, r1, r2, g0, g1, g2⟩ := id D
  obtain ⟨_, n0, n1, n2, h0, h1, h2⟩ := id VV
  obtain ⟨_, s0, s1, q0, q1⟩ := id S
  go_wp2_with fail
  refine (cl _ T).mono ?_
  rintro e w2 ⟨g, cap, rfl, SR, hg, hb, hcp⟩
  replace C := C.kept hb
  replace B := bthen B hb
  replace T := T.kept hb
  replace U := U.kept hb
  replace D := D.kept hb
  replace VV := VV.kept hb
  replace S := S.kept hb
  clear hb c0 c1 c2 c3 c4 c5 c6 c7 c8 c9 c10 c11 c12 c13 u0 u1 u2 fu0 fu1 fu2 r0 r1 r2 g0 g1 g2 n0 n1 n2 h0 h1 h2 s0 s1 q0 q1
  obtain ⟨_, c0, c1, c2, c3, c4, c5, c6, c7, c8, c9, c10, c11, c12, c13⟩ := id C
  obtain ⟨_, u0, u1, u2, fu0, fu1, fu2⟩ := id U
  obtain ⟨_, r0, r1, r2, g0, g1, g2⟩ := id D
  obtain ⟨_, n0, n1, n2, h0, h1, h2⟩ := id VV
  obtain ⟨_, s0, s1, q0, q1⟩ := id S
  clear cs cl hg
  clear c0 c1 c2 c3 c4 c5 c6 c7 c8 c9 c10 c11 c12 c13 u0 u1 u2 fu0 fu1 fu2 s0 s1 q0 q1 r0 r1 r2 g0 g1 g2 n0 n1 n2 h0 h1 h2
  go_wp2
  go_loopw [13, 14, 48] (fun F A I wr => ∃ k : Nat, k ≤ N ∧ I = .int .i64 (k : Int) ∧ F = .int .i64 (fiD r k) ∧ A = .int .i64 (laD r s k) ∧ Below w2.heap.size w2 wr) (fun _ _ I _ => N - (intOf I).toNat)
  case atStart => exact ⟨0, by omega, rfl, by rw [H0.out.1], by rw [H0.out.2], Below.refl _ _⟩
  case round =>
    obtain ⟨k, kM, rfl, rfl, rfl, B2⟩ := hrel
    by_cases hlt : k < N
    · obtain ⟨f, t, sa, OO⟩ := HR.out k hlt
      have SR2 := SR.kept B2
      obtain ⟨e0, e1⟩ := SR2.c k _ sa
      simp only at e0 e1
      have kk : (k : Int) < (N : Int) := by omega
      have k60 : (k : Int) ≤ 60 := by omega
      have X := Pr.Two.new wr (.int .i64 f) (.int .i64 t) 34
      have S2 := (S.kept B2).alloc (.cells #[.int .i64 f, .int .i64 t] 34)
      have B3 := balloc B2 (.cells #[.int .i64 f, .int .i64 t] 34)
      obtain ⟨u, hu⟩ : ∃ u, fiD r k = u := ⟨_, rfl⟩
      obtain ⟨v, hv⟩ : ∃ v, laD r s k = v := ⟨_, rfl⟩
      rw [hu, hv] at OO
      rw [hu, hv]
      have HU := Lib.hid (And.intro hu hv)
      clear sa SR2 hu hv
      go_upto_region 11 with fail
      generalize wr.alloc (.cells #[.int .i64 f, .int .i64 t] 34) = W10 at *
      obtain ⟨_, x0, x1, fx0, fx1⟩ := id X
      obtain ⟨_, s0, s1, q0, q1⟩ := id S2
      rcases OO with ⟨ci, h1, h2⟩ | ⟨ci, h3, h1, h2⟩ | ⟨ci, h3, h1, h2⟩
      · have HN := Lib.hid (And.intro h1 h2)
        clear h1 h2
        go_wp2_with fail
        refine (ci _).mono ?_
        rintro e w10 ⟨rfl, hb⟩
        have B4 := bthen B3 hb
        clear ci s0 s1 q0 q1 x0 x1 fx0 fx1 S2 X
        go_wp2
        go_roundw
        case rel => exact ⟨k + 1, by omega, by go_num, by rw [HN.out.1], by rw [HN.out.2], B4⟩
        case measure => simp [intOf]; omega
      · have z3 : (u == 0) = true := beq_iff_eq.2 h3
        clear h3
        have HN := Lib.hid (And.intro h1 h2)
        clear h1 h2
        go_wp2_with fail
        refine (ci _).mono ?_
        rintro e w10 ⟨rfl, hb⟩
        have B4 := bthen B3 hb
        clear ci s0 s1 q0 q1 x0 x1 fx0 fx1 S2 X
        go_wp2
        go_roundw
        case rel => exact ⟨k + 1, by omega, by go_num, by rw [HN.out.1], by rw [HN.out.2], B4⟩
        case measure => simp [intOf]; omega
      · have z3 : (u == 0) = false := beq_eq_false_iff_ne.2 h3
        clear h3
        have HN := Lib.hid (And.intro h1 h2)
        clear h1 h2
        go_wp2_with fail
        refine (ci _).mono ?_
        rintro e w10 ⟨rfl, hb⟩
        have B4 := bthen B3 hb
        clear ci s0 s1 q0 q1 x0 x1 fx0 fx1 S2 X
        go_wp2
        go_roundw
        case rel => exact ⟨k + 1, by omega, by go_num, by rw [HN.out.1], by rw [HN.out.2], B4⟩
        case measure => simp [intOf]; omega
    · obtain rfl : k = N := by omega
      have kk : ¬ (k : Int) < (k : Int) := by omega
      rw [HE.out.1, HE.out.2]
      have U2 := U.kept B2
      obtain ⟨_, u0, u1, u2, fu0, fu1, fu2⟩ := id U2
      replace D := D.kept B2
      replace VV := VV.kept B2
      replace B := bthen B B2
      obtain ⟨_, r0, r1, r2, g0, g1, g2⟩ := id D
      obtain ⟨_, n0, n1, n2, h0, h1, h2⟩ := id VV
      go_upto_region 16 with fail
      go_region
      all_goals
        go_wp2
        refine bodyPost_ret (v := .tuple #[.agg #[.int .i64 p, .int .i64 q, .int .i64 r], .agg #[.int .i64 p, .int .i64 q, .int .i64 s], .int .i64 0]) (by simp [results, Tryz.results106, go_sem, *]) rfl ⟨rfl, ?_⟩
        exact (bset (bset (bset (bset (bset (bset B (by omega) _ _) (by omega) _ _) (by omega) _ _) (by omega) _ _) (by omega) _ _) (by omega) _ _).drew

set_option maxRecDepth 100000 in
theorem rDown_lev (c : CalZ) (L y i M : Int) (w : World) (uo : UnitOk c L y i) (mm : ¬ (L ≤ M ∧ M ≤ 5)) (K : ChkSays c) (hm : c.nm.size ≤ maxLen) (T : FTab w) :
    Calls Tryz.prog 106 #[.agg #[.string c.nm, .int .i64 c.k, .int .i64 c.d, .int .i64 c.m, .int .i64 c.s, .int .i64 c.sh, .int .i64 c.p0, .int .i64 c.p1, .int .i64 c.p2, .int .i64 c.cy, .int .i64 c.ex, .int .i64 c.fi, .int .i64 c.la, .int .i64 c.po], .agg #[.int .i64 L, .int .i64 y, .int .i64 i], .int .i64 M] w fun e w' => e = .returned (.tuple #[.agg #[.int .i64 0, .int .i64 0, .int .i64 0], .agg #[.int .i64 0, .int .i64 0, .int .i64 0], .int .i64 1]) ∧ Below w.heap.size w w' := by
  have C := CalIn.new w c 24
  have B := balloc (Below.refl _ w) (.cells #[.string c.nm, .int .i64 c.k, .int .i64 c.d, .int .i64 c.m, .int .i64 c.s, .int .i64 c.sh, .int .i64 c.p0, .int .i64 c.p1, .int .i64 c.p2, .int .i64 c.cy, .int .i64 c.ex, .int .i64 c.fi, .int .i64 c.la, .int .i64 c.po] 24)
  replace T := T.alloc (.cells #[.string c.nm, .int .i64 c.k, .int .i64 c.d, .int .i64 c.m, .int .i64 c.s, .int .i64 c.sh, .int .i64 c.p0, .int .i64 c.p1, .int .i64 c.p2, .int .i64 c.cy, .int .i64 c.ex, .int .i64 c.fi, .int .i64 c.la, .int .i64 c.po] 24)
  have U := Bx.Tri.new (w.alloc (.cells #[.string c.nm, .int .i64 c.k, .int .i64 c.d, .int .i64 c.m, .int .i64 c.s, .int .i64 c.sh, .int .i64 c.p0, .int .i64 c.p1, .int .i64 c.p2, .int .i64 c.cy, .int .i64 c.ex, .int .i64 c.fi, .int .i64 c.la, .int .i64 c.po] 24)) (.int .i64 L) (.int .i64 y) (.int .i64 i) 26
  rw [World.size_alloc] at U
  have D := Bx.Tri.new ((w.alloc (.cells #[.string c.nm, .int .i64 c.k, .int .i64 c.d, .int .i64 c.m, .int .i64 c.s, .int .i64 c.sh, .int .i64 c.p0, .int .i64 c.p1, .int .i64 c.p2, .int .i64 c.cy, .int .i64 c.ex, .int .i64 c.fi, .int .i64 c.la, .int .i64 c.po] 24)).alloc (.cells #[.int .i64 L, .int .i64 y, .int .i64 i] 26)) (.int .i64 0) (.int .i64 0) (.int .i64 0) 26
  have zz : ((w.alloc (.cells #[.string c.nm, .int .i64 c.k, .int .i64 c.d, .int .i64 c.m, .int .i64 c.s, .int .i64 c.sh, .int .i64 c.p0, .int .i64 c.p1, .int .i64 c.p2, .int .i64 c.cy, .int .i64 c.ex, .int .i64 c.fi, .int .i64 c.la, .int .i64 c.po] 24)).alloc (.cells #[.int .i64 L, .int .i64 y, .int .i64 i] 26)).heap.size = w.heap.size + 2 := by simp
  rw [zz] at D
  have VV := Bx.Tri.new (((w.alloc (.cells #[.string c.nm, .int .i64 c.k, .int .i64 c.d, .int .i64 c.m, .int .i64 c.s, .int .i64 c.sh, .int .i64 c.p0, .int .i64 c.p1, .int .i64 c.p2, .int .i64 c.cy, .int .i64 c.ex, .int .i64 c.fi, .int .i64 c.la, .int .i64 c.po] 24)).alloc (.cells #[.int .i64 L, .int .i64 y, .int .i64 i] 26)).alloc (.cells #[.int .i64 0, .int .i64 0, .int .i64 0] 26)) (.int .i64 0) (.int .i64 0) (.int .i64 0) 26
  have zz3 : (((w.alloc (.cells #[.string c.nm, .int .i64 c.k, .int .i64 c.d, .int .i64 c.m, .int .i64 c.s, .int .i64 c.sh, .int .i64 c.p0, .int .i64 c.p1, .int .i64 c.p2, .int .i64 c.cy, .int .i64 c.ex, .int .i64 c.fi, .int .i64 c.la, .int .i64 c.po] 24)).alloc (.cells #[.int .i64 L, .int .i64 y, .int .i64 i] 26)).alloc (.cells #[.int .i64 0, .int .i64 0, .int .i64 0] 26)).heap.size = w.heap.size + 3 := by simp
  rw [zz3] at VV
  replace U := (U.alloc (.cells #[.int .i64 0, .int .i64 0, .int .i64 0] 26)).alloc (.cells #[.int .i64 0, .int .i64 0, .int .i64 0] 26)
  replace D := D.alloc (.cells #[.int .i64 0, .int .i64 0, .int .i64 0] 26)
  replace C := ((C.alloc (.cells #[.int .i64 L, .int .i64 y, .int .i64 i] 26)).alloc (.cells #[.int .i64 0, .int .i64 0, .int .i64 0] 26)).alloc (.cells #[.int .i64 0, .int .i64 0, .int .i64 0] 26)
  replace B := balloc (balloc (balloc B (.cells #[.int .i64 L, .int .i64 y, .int .i64 i] 26)) (.cells #[.int .i64 0, .int .i64 0, .int .i64 0] 26)) (.cells #[.int .i64 0, .int .i64 0, .int .i64 0] 26)
  replace T := ((T.alloc (.cells #[.int .i64 L, .int .i64 y, .int .i64 i] 26)).alloc (.cells #[.int .i64 0, .int .i64 0, .int .i64 0] 26)).alloc (.cells #[.int .i64 0, .int .i64 0, .int .i64 0] 26)
  clear zz zz3
  obtain ⟨a, ha⟩ : ∃ a, a = uend c y L (i - 1) + 1 := ⟨_, rfl⟩
  obtain ⟨b, hb'⟩ : ∃ b, b = uend c y L i := ⟨_, rfl⟩
  have cs := fun w T => rSpan_any c L y i a b 0 w (.inl ⟨uo, ha, hb', rfl⟩) K hm T
  have O : decide (M < L) = true ∨ (decide (M < L) = false ∧ decide ((5 : Int) < M) = true) := by
    by_cases h : M < L
    · exact .inl (decide_eq_true h)
    · exact .inr ⟨decide_eq_false h, decide_eq_true (by omega)⟩
  clear uo mm ha hb' K
  rcases O with l0 | ⟨l0, l1⟩
  all_goals
    go_enter Tryz.func106, Tryz.ntmps106
    go_upto_region 1 with fail
    generalize (((w.alloc (.cells #[.string c.nm, .int .i64 c.k, .int .i64 c.d, .int .i64 c.m, .int .i64 c.s, .int .i64 c.sh, .int .i64 c.p0, .int .i64 c.p1, .int .i64 c.p2, .int .i64 c.cy, .int .i64 c.ex, .int .i64 c.fi, .int .i64 c.la, .int .i64 c.po] 24)).alloc (.cells #[.int .i64 L, .int .i64 y, .int .i64 i] 26)).alloc (.cells #[.int .i64 0, .int .i64 0, .int .i64 0] 26)).alloc (.cells #[.int .i64 0, .int .i64 0, .int .i64 0] 26) = W0 at *
    obtain ⟨_, c0, c1, c2, c3, c4, c5, c6, c7, c8, c9, c10, c11, c12, c13⟩ := id C
    obtain ⟨_, u0, u1, u2, fu0, fu1, fu2⟩ := id U
    obtain ⟨_, r0, r1, r2, g0, g1, g2⟩ := id D
    obtain ⟨_, n0, n1, n2, h0, h1, h2⟩ := id VV
    go_wp2_with fail
    refine (cs _ T).mono ?_
    rintro e w1 ⟨rfl, hb⟩
    replace C := C.kept hb
    replace B := bthen B hb
    replace T := T.kept hb
    replace U := U.kept hb
    replace D := D.kept hb
    replace VV := VV.kept hb
    clear hb c0 c1 c2 c3 c4 c5 c6 c7 c8 c9 c10 c11 c12 c13 u0 u1 u2 fu0 fu1 fu2 r0 r1 r2 g0 g1 g2 n0 n1 n2 h0 h1 h2
    obtain ⟨_, c0, c1, c2, c3, c4, c5, c6, c7, c8, c9, c10, c11, c12, c13⟩ := id C
    obtain ⟨_, u0, u1, u2, fu0, fu1, fu2⟩ := id U
    obtain ⟨_, r0, r1, r2, g0, g1, g2⟩ := id D
    obtain ⟨_, n0, n1, n2, h0, h1, h2⟩ := id VV
    go_wp2
    refine bodyPost_ret (v := .tuple #[.agg #[.int .i64 0, .int .i64 0, .int .i64 0], .agg #[.int .i64 0, .int .i64 0, .int .i64 0], .int .i64 1]) (by simp [results, Tryz.results106, go_sem, *]) rfl ⟨rfl, ?_⟩
    exact balloc (bset (bset (bset (bset (bset (bset B (by omega) _ _) (by omega) _ _) (by omega) _ _) (by omega) _ _) (by omega) _ _) (by omega) _ _) _

set_option maxRecDepth 100000 in
theorem rDown_no (c : CalZ) (L y i M er : Int) (w : World) (no : ¬ UnitOk c L y i) (ck : UChkA c L y i er) (K : ChkSays c) (hm : c.nm.size ≤ maxLen) (T : FTab w) :
    Calls Tryz.prog 106 #[.agg #[.string c.nm, .int .i64 c.k, .int .i64 c.d, .int .i64 c.m, .int .i64 c.s, .int .i64 c.sh, .int .i64 c.p0, .int .i64 c.p1, .int .i64 c.p2, .int .i64 c.cy, .int .i64 c.ex, .int .i64 c.fi, .int .i64 c.la, .int .i64 c.po], .agg #[.int .i64 L, .int .i64 y, .int .i64 i], .int .i64 M] w fun e w' => e = .returned (.tuple #[.agg #[.int .i64 0, .int .i64 0, .int .i64 0], .agg #[.int .i64 0, .int .i64 0, .int .i64 0], .int .i64 er]) ∧ Below w.heap.size w w' := by
  have C := CalIn.new w c 24
  have B := balloc (Below.refl _ w) (.cells #[.string c.nm, .int .i64 c.k, .int .i64 c.d, .int .i64 c.m, .int .i64 c.s, .int .i64 c.sh, .int .i64 c.p0, .int .i64 c.p1, .int .i64 c.p2, .int .i64 c.cy, .int .i64 c.ex, .int .i64 c.fi, .int .i64 c.la, .int .i64 c.po] 24)
  replace T := T.alloc (.cells #[.string c.nm, .int .i64 c.k, .int .i64 c.d, .int .i64 c.m, .int .i64 c.s, .int .i64 c.sh, .int .i64 c.p0, .int .i64 c.p1, .int .i64 c.p2, .int .i64 c.cy, .int .i64 c.ex, .int .i64 c.fi, .int .i64 c.la, .int .i64 c.po] 24)
  have U := Bx.Tri.new (w.alloc (.cells #[.string c.nm, .int .i64 c.k, .int .i64 c.d, .int .i64 c.m, .int .i64 c.s, .int .i64 c.sh, .int .i64 c.p0, .int .i64 c.p1, .int .i64 c.p2, .int .i64 c.cy, .int .i64 c.ex, .int .i64 c.fi, .int .i64 c.la, .int .i64 c.po] 24)) (.int .i64 L) (.int .i64 y) (.int .i64 i) 26
  rw [World.size_alloc] at U
  have D := Bx.Tri.new ((w.alloc (.cells #[.string c.nm, .int .i64 c.k, .int .i64 c.d, .int .i64 c.m, .int .i64 c.s, .int .i64 c.sh, .int .i64 c.p0, .int .i64 c.p1, .int .i64 c.p2, .int .i64 c.cy, .int .i64 c.ex, .int .i64 c.fi, .int .i64 c.la, .int .i64 c.po] 24)).alloc (.cells #[.int .i64 L, .int .i64 y, .int .i64 i] 26)) (.int .i64 0) (.int .i64 0) (.int .i64 0) 26
  have zz : ((w.alloc (.cells #[.string c.nm, .int .i64 c.k, .int .i64 c.d, .int .i64 c.m, .int .i64 c.s, .int .i64 c.sh, .int .i64 c.p0, .int .i64 c.p1, .int .i64 c.p2, .int .i64 c.cy, .int .i64 c.ex, .int .i64 c.fi, .int .i64 c.la, .int .i64 c.po] 24)).alloc (.cells #[.int .i64 L, .int .i64 y, .int .i64 i] 26)).heap.size = w.heap.size + 2 := by simp
  rw [zz] at D
  have VV := Bx.Tri.new (((w.alloc (.cells #[.string c.nm, .int .i64 c.k, .int .i64 c.d, .int .i64 c.m, .int .i64 c.s, .int .i64 c.sh, .int .i64 c.p0, .int .i64 c.p1, .int .i64 c.p2, .int .i64 c.cy, .int .i64 c.ex, .int .i64 c.fi, .int .i64 c.la, .int .i64 c.po] 24)).alloc (.cells #[.int .i64 L, .int .i64 y, .int .i64 i] 26)).alloc (.cells #[.int .i64 0, .int .i64 0, .int .i64 0] 26)) (.int .i64 0) (.int .i64 0) (.int .i64 0) 26
  have zz3 : (((w.alloc (.cells #[.string c.nm, .int .i64 c.k, .int .i64 c.d, .int .i64 c.m, .int .i64 c.s, .int .i64 c.sh, .int .i64 c.p0, .int .i64 c.p1, .int .i64 c.p2, .int .i64 c.cy, .int .i64 c.ex, .int .i64 c.fi, .int .i64 c.la, .int .i64 c.po] 24)).alloc (.cells #[.int .i64 L, .int .i64 y, .int .i64 i] 26)).alloc (.cells #[.int .i64 0, .int .i64 0, .int .i64 0] 26)).heap.size = w.heap.size + 3 := by simp
  rw [zz3] at VV
  replace U := (U.alloc (.cells #[.int .i64 0, .int .i64 0, .int .i64 0] 26)).alloc (.cells #[.int .i64 0, .int .i64 0, .int .i64 0] 26)
  replace D := D.alloc (.cells #[.int .i64 0, .int .i64 0, .int .i64 0] 26)
  replace C := ((C.alloc (.cells #[.int .i64 L, .int .i64 y, .int .i64 i] 26)).alloc (.cells #[.int .i64 0, .int .i64 0, .int .i64 0] 26)).alloc (.cells #[.int .i64 0, .int .i64 0, .int .i64 0] 26)
  replace B := balloc (balloc (balloc B (.cells #[.int .i64 L, .int .i64 y, .int .i64 i] 26)) (.cells #[.int .i64 0, .int .i64 0, .int .i64 0] 26)) (.cells #[.int .i64 0, .int .i64 0, .int .i64 0] 26)
  replace T := ((T.alloc (.cells #[.int .i64 L, .int .i64 y, .int .i64 i] 26)).alloc (.cells #[.int .i64 0, .int .i64 0, .int .i64 0] 26)).alloc (.cells #[.int .i64 0, .int .i64 0, .int .i64 0] 26)
  clear zz zz3
  have cs := fun w T => rSpan_any c L y i 0 0 er w (.inr ⟨no, ck, rfl, rfl⟩) K hm T
  have e0 : (er != 0) = true := bne_iff_ne.2 (fun q => no ((uchka_ok ck).1 q))
  clear no ck K
  go_enter Tryz.func106, Tryz.ntmps106
  go_upto_region 1 with fail
  generalize (((w.alloc (.cells #[.string c.nm, .int .i64 c.k, .int .i64 c.d, .int .i64 c.m, .int .i64 c.s, .int .i64 c.sh, .int .i64 c.p0, .int .i64 c.p1, .int .i64 c.p2, .int .i64 c.cy, .int .i64 c.ex, .int .i64 c.fi, .int .i64 c.la, .int .i64 c.po] 24)).alloc (.cells #[.int .i64 L, .int .i64 y, .int .i64 i] 26)).alloc (.cells #[.int .i64 0, .int .i64 0, .int .i64 0] 26)).alloc (.cells #[.int .i64 0, .int .i64 0, .int .i64 0] 26) = W0 at *
  obtain ⟨_, c0, c1, c2, c3, c4, c5, c6, c7, c8, c9, c10, c11, c12, c13⟩ := id C
  obtain ⟨_, u0, u1, u2, fu0, fu1, fu2⟩ := id U
  obtain ⟨_, r0, r1, r2, g0, g1, g2⟩ := id D
  obtain ⟨_, n0, n1, n2, h0, h1, h2⟩ := id VV
  go_wp2_with fail
  refine (cs _ T).mono ?_
  rintro e w1 ⟨rfl, hb⟩
  replace C := C.kept hb
  replace B := bthen B hb
  replace T := T.kept hb
  replace U := U.kept hb
  replace D := D.kept hb
  replace VV := VV.kept hb
  clear hb c0 c1 c2 c3 c4 c5 c6 c7 c8 c9 c10 c11 c12 c13 u0 u1 u2 fu0 fu1 fu2 r0 r1 r2 g0 g1 g2 n0 n1 n2 h0 h1 h2
  obtain ⟨_, c0, c1, c2, c3, c4, c5, c6, c7, c8, c9, c10, c11, c12, c13⟩ := id C
  obtain ⟨_, u0, u1, u2, fu0, fu1, fu2⟩ := id U
  obtain ⟨_, r0, r1, r2, g0, g1, g2⟩ := id D
  obtain ⟨_, n0, n1, n2, h0, h1, h2⟩ := id VV
  go_wp2
  refine bodyPost_ret (v := .tuple #[.agg #[.int .i64 0, .int .i64 0, .int .i64 0], .agg #[.int .i64 0, .int .i64 0, .int .i64 0], .int .i64 er]) (by simp [results, Tryz.results106, go_sem, *]) rfl ⟨rfl, ?_⟩
  exact balloc (bset (bset (bset (bset (bset (bset B (by omega) _ _) (by omega) _ _) (by omega) _ _) (by omega) _ _) (by omega) _ _) (by omega) _ _) _

theorem rDown_any (c : CalZ) (L y i M p q r s er : Int) (w : World) (R : DownA c L y i M p q r s er) (K : ChkSays c) (hm : c.nm.size ≤ maxLen) (T : FTab w) :
    Calls Tryz.prog 106 #[.agg #[.string c.nm, .int .i64 c.k, .int .i64 c.d, .int .i64 c.m, .int .i64 c.s, .int .i64 c.sh, .int .i64 c.p0, .int .i64 c.p1, .int .i64 c.p2, .int .i64 c.cy, .int .i64 c.ex, .int .i64 c.fi, .int .i64 c.la, .int .i64 c.po], .agg #[.int .i64 L, .int .i64 y, .int .i64 i], .int .i64 M] w fun e w' => e = .returned (.tuple #[.agg #[.int .i64 p, .int .i64 q, .int .i64 r], .agg #[.int .i64 p, .int .i64 q, .int .i64 s], .int .i64 er]) ∧ Below w.heap.size w w' := by
  rcases R with ⟨uo, m0, m1, hr, hs, rfl, rfl, rfl⟩ | ⟨uo, mm, rfl, rfl, rfl, rfl, rfl⟩ | ⟨no, ck, rfl, rfl, rfl, rfl⟩
  · exact rDown_ok c L q i p r s w uo m0 m1 hr hs K hm T
  · exact rDown_lev c L y i M w uo mm K hm T
  · exact rDown_no c L y i M er w no ck K hm T

end Go.Proofs.YtkfogmaogfgcgaaGreatDoor.Ir

