/- Texts that are joined: Brm, Brf, Brw, Brr. -/
import Derived.Test.YtkfogmaogfgcgaaGreatDoorQaJB
import Derived.Test.YtkfogmaogfgcgaaGreatDoorQaIrdn
import Derived.Test.YtkfogmaogfgcgaaGreatDoorQaIrl
import Derived.Test.YtkfogmaogfgcgaaGreatDoorQaIrs
import Derived.Test.YtkfogmaogfgcgaaGreatDoorQaMrwk
import Derived.Test.YtkfogmaogfgcgaaGreatDoorQaJM
import Derived.Test.YtkfogmaogfgcgaaGreatDoorQaJR
namespace Go.Proofs.YtkfogmaogfgcgaaGreatDoor.Am
set_option linter.unusedSimpArgs false
set_option linter.unusedVariables false
open Cm Em Rk

def rawW (c : CalZ) (t v : Int) : U3 := if v < 1 then (5, t - 1, nweeks c (t - 1)) else if nweeks c t < v then (5, t + 1, v - nweeks c t) else (5, t, v)
def rawL (c : CalZ) (y t a : Int) : Nat → List U3
  | 0 => []
  | n + 1 => match polF c y t (a + n) with
    | none => rawL c y t a n
    | some v => rawL c y t a n ++ [rawW c t v]
def RawTo (c : CalZ) (R l : List U3) (er : Int) : Prop :=
  ((∃ (j : Nat) (u : U3), R[j]? = some u ∧ ¬ Served c u.2.1) ∧ l = [] ∧ er = 11) ∨ ((∀ (j : Nat) (u : U3), R[j]? = some u → Served c u.2.1) ∧ l = R ∧ ((R = [] ∧ er = 12) ∨ (R ≠ [] ∧ er = 0)))
section
variable {c : CalZ} {L y i t k x a b v er : Int} {n m : Nat} {l R : List U3} {o : Option (List U3)}
theorem rawL_none (h : polF c y t (a + n) = none) : rawL c y t a (n + 1) = rawL c y t a n := by simp only [rawL]; rw [h]
theorem rawL_some (h : polF c y t (a + n) = some v) : rawL c y t a (n + 1) = rawL c y t a n ++ [rawW c t v] := by simp only [rawL]; rw [h]
theorem rawL_len (c : CalZ) (y t a : Int) (n : Nat) : (rawL c y t a n).length ≤ n := by
  induction n with
  | zero => simp [rawL]
  | succ n ih =>
    cases h : polF c y t (a + n) with
    | none => rw [rawL_none h]; omega
    | some v => rw [rawL_some h]; simp; omega
theorem raw_cnt (st : Served c t) (v1 : v ≤ nweeks c t + 1) (n0 : 1 ≤ nweeks c t) : (cntW c t v = some (rawW c t v) ∧ Served c (rawW c t v).2.1) ∨ (cntW c t v = none ∧ ¬ Served c (rawW c t v).2.1) := by
  obtain ⟨s0, s1⟩ := st
  unfold cntW rawW
  by_cases h1 : v < 1
  · rw [if_pos h1, if_pos h1]
    by_cases h2 : c.fi < t
    · rw [if_pos h2]; exact .inl ⟨rfl, by unfold Served; simp only; omega⟩
    · rw [if_neg h2]; exact .inr ⟨rfl, by unfold Served; simp only; omega⟩
  · rw [if_neg h1, if_neg h1]
    by_cases h2 : nweeks c t < v
    · rw [if_pos h2, if_pos h2]
      by_cases h3 : t < c.la
      · rw [if_pos h3]; exact .inl ⟨by rw [show v - nweeks c t = 1 by omega], by unfold Served; simp only; omega⟩
      · rw [if_neg h3]; exact .inr ⟨rfl, by unfold Served; simp only; omega⟩
    · rw [if_neg h2, if_neg h2]; exact .inl ⟨rfl, ⟨s0, s1⟩⟩
theorem raw_cmp (ok : CalOk c) (k6 : c.k ≠ 6) (sy : Served c y) (st : Served c t) (a0 : 1 ≤ a) : ∀ n : Nat, a + n - 1 ≤ nweeks c y →
    (cmpW c y t a n = some (rawL c y t a n) ∧ ∀ (j : Nat) (u : U3), (rawL c y t a n)[j]? = some u → Served c u.2.1) ∨ (cmpW c y t a n = none ∧ ∃ (j : Nat) (u : U3), (rawL c y t a n)[j]? = some u ∧ ¬ Served c u.2.1) := by
  have ty := served_told ok sy
  have tt := served_told ok st
  have nt := (nweeks_01 ok.1 k6 (y := t) (by omega) (by omega)).1
  intro n
  induction n with
  | zero => intro _; exact .inl ⟨rfl, fun j u h => by simp [rawL] at h⟩
  | succ n ih =>
    intro hn
    have e : cmpW c y t a (n + 1) = (match cmpW c y t a n with
      | none => none
      | some l => match polF c y t (a + n) with
        | none => some l
        | some v => match cntW c t v with
          | none => none
          | some u => some (l ++ [u])) := rfl
    cases hp : polF c y t (a + n) with
    | none =>
      rw [e, rawL_none hp, hp]
      rcases ih (by omega) with ⟨h, s⟩ | ⟨h, s⟩
      · rw [h]; exact .inl ⟨rfl, s⟩
      · rw [h]; exact .inr ⟨rfl, s⟩
    | some v =>
      have vb := polF_bd ok k6 (by omega) (by omega) (by omega) (by omega) (x := a + n) (by omega) (by omega) hp
      rw [e, rawL_some hp, hp]
      rcases ih (by omega) with ⟨h, s⟩ | ⟨h, j, u, hu, s⟩
      · rw [h]
        rcases raw_cnt st vb.2 (by omega) with ⟨q, r⟩ | ⟨q, r⟩
        · simp only [q]
          refine .inl ⟨trivial, fun j u hu => ?_⟩
          by_cases jl : j < (rawL c y t a n).length
          · rw [List.getElem?_append_left jl] at hu; exact s j u hu
          · rw [List.getElem?_append_right (by omega)] at hu
            cases e : j - (rawL c y t a n).length with
            | zero => rw [e] at hu; simp at hu; subst hu; exact r
            | succ m => rw [e] at hu; simp at hu
        · simp only [q]
          exact .inr ⟨trivial, (rawL c y t a n).length, _, by simp, r⟩
      · rw [h]
        refine .inr ⟨rfl, j, u, ?_, s⟩
        rw [List.getElem?_append_left (List.getElem?_eq_some_iff.1 hu).1]
        exact hu
theorem rawto_of (h : (o = some R ∧ ∀ (j : Nat) (u : U3), R[j]? = some u → Served c u.2.1) ∨ (o = none ∧ ∃ (j : Nat) (u : U3), R[j]? = some u ∧ ¬ Served c u.2.1)) (q : (o = none ∧ l = [] ∧ er = 11) ∨ (o = some [] ∧ l = [] ∧ er = 12) ∨ (o = some l ∧ l ≠ [] ∧ er = 0)) : RawTo c R l er := by
  rcases h with ⟨rfl, s⟩ | ⟨rfl, s⟩
  · rcases q with ⟨h, _⟩ | ⟨h, rfl, e⟩ | ⟨h, n, e⟩
    · cases h
    · cases h; exact .inr ⟨s, rfl, .inl ⟨rfl, e⟩⟩
    · cases h; exact .inr ⟨s, rfl, .inr ⟨n, e⟩⟩
  · rcases q with ⟨_, hl, e⟩ | ⟨h, _⟩ | ⟨h, _⟩
    · exact .inl ⟨s, hl, e⟩
    · cases h
    · cases h
theorem raw_weeks (k6 : c.k ≠ 6) (u : UnitOk c L y i) (st : Served c t) (R : WeeksF c L y i t o) (q : (o = none ∧ l = [] ∧ er = 11) ∨ (o = some [] ∧ l = [] ∧ er = 12) ∨ (o = some l ∧ l ≠ [] ∧ er = 0)) :
    ∃ a b n, WkOf c L y i a b ∧ (n : Nat) = (b - a + 1 : Int) ∧ 1 ≤ a ∧ a ≤ b ∧ b ≤ nweeks c y ∧ RawTo c (rawL c y t a n) l er := by
  rcases R with ⟨_, a, b, W, ho⟩ | ⟨h, _⟩ | ⟨h, _⟩
  · have r := wkof_is u W
    have ty := served_told u.1 u.2.2.1
    have uc : ucount c y 5 = nweeks c y := by
      have nn := (nweeks_01 u.1.1 k6 (y := y) (by omega) (by omega))
      have w := week_at (c := c) (y := y) (n := yend c (y - 1) + 7) (i := 1) u.1 k6 u.2.2.1 (by omega) (by have := nn.2; have := nn.1; omega) (by omega) (by omega)
      exact w.2.2.2.2.2
    obtain ⟨n, hn⟩ : ∃ n : Nat, (n : Int) = b - a + 1 := ⟨(b - a + 1).toNat, by omega⟩
    rw [show (b - a + 1).toNat = n by omega] at ho
    refine ⟨a, b, n, W, hn, r.2.2.1, r.2.2.2.1, by omega, rawto_of (o := o) ?_ q⟩
    rw [ho]
    exact raw_cmp u.1 k6 u.2.2.1 st r.2.2.1 n (by omega)
  · exact absurd h k6
  · exact absurd h k6
end

end Go.Proofs.YtkfogmaogfgcgaaGreatDoor.Am

namespace Go.Proofs.YtkfogmaogfgcgaaGreatDoor.Br
set_option linter.unusedSimpArgs false
set_option linter.unusedVariables false
open Go.RowKit Go.Maps Bn Bx Cp Am Fp Ap Ar Cm Em Ep Rk Hp Hr Ip Ir Rf

set_option maxHeartbeats 8000000

structure Bel (w W : World) : Prop where
  b : Below w.heap.size w W
theorem Bel.new (w : World) : Bel w w := ⟨Below.refl _ _⟩
theorem Bel.kept {w W W' : World} (p : Bel w W) (hb : Below W.heap.size W W') : Bel w W' := ⟨bthen p.b hb⟩
theorem Bel.alloc {w W : World} (p : Bel w W) (o : Obj) : Bel w (W.alloc o) := ⟨balloc p.b o⟩

set_option maxRecDepth 100000 in
theorem rserved20_any (c : CalZ) (y : Int) (r : Bool) (w : World) (hr : (r = true ∧ Served c y) ∨ (r = false ∧ ¬ Served c y)) :
    Calls Tryz.prog 67 #[.agg #[.string c.nm, .int .i64 c.k, .int .i64 c.d, .int .i64 c.m, .int .i64 c.s, .int .i64 c.sh, .int .i64 c.p0, .int .i64 c.p1, .int .i64 c.p2, .int .i64 c.cy, .int .i64 c.ex, .int .i64 c.fi, .int .i64 c.la, .int .i64 c.po], .int .i64 y] w fun e w' => e = .returned (.bool r) ∧ Below w.heap.size w w' := by
  have C := CalIn.new w c 24
  have B := balloc (Below.refl _ w) (.cells #[.string c.nm, .int .i64 c.k, .int .i64 c.d, .int .i64 c.m, .int .i64 c.s, .int .i64 c.sh, .int .i64 c.p0, .int .i64 c.p1, .int .i64 c.p2, .int .i64 c.cy, .int .i64 c.ex, .int .i64 c.fi, .int .i64 c.la, .int .i64 c.po] 24)
  have O : (decide (c.fi ≤ y) = false ∧ r = false) ∨ (decide (c.fi ≤ y) = true ∧ decide (y ≤ c.la) = false ∧ r = false) ∨ (decide (c.fi ≤ y) = true ∧ decide (y ≤ c.la) = true ∧ r = true) := by
    rcases hr with ⟨rfl, h⟩ | ⟨rfl, h⟩
    · exact .inr (.inr ⟨decide_eq_true h.1, decide_eq_true h.2, rfl⟩)
    · by_cases h1 : c.fi ≤ y
      · exact .inr (.inl ⟨decide_eq_true h1, decide_eq_false (fun k => h ⟨h1, k⟩), rfl⟩)
      · exact .inl ⟨decide_eq_false h1, rfl⟩
  clear hr
  rcases O with ⟨d0, rfl⟩ | ⟨d0, d1, rfl⟩ | ⟨d0, d1, rfl⟩
  all_goals
    go_enter Tryz.func67, Tryz.ntmps67
    go_upto_region 1 with fail
    generalize w.alloc (.cells #[.string c.nm, .int .i64 c.k, .int .i64 c.d, .int .i64 c.m, .int .i64 c.s, .int .i64 c.sh, .int .i64 c.p0, .int .i64 c.p1, .int .i64 c.p2, .int .i64 c.cy, .int .i64 c.ex, .int .i64 c.fi, .int .i64 c.la, .int .i64 c.po] 24) = W0 at *
    obtain ⟨_, c0, c1, c2, c3, c4, c5, c6, c7, c8, c9, c10, c11, c12, c13⟩ := id C
    go_wp2
    go_ret
    exact ⟨by simp, B⟩

set_option maxRecDepth 100000 in
theorem rwithin_any (c : CalZ) (L y i a b : Int) (n : Nat) (w : World) (u : UnitOk c L y i) (W : WkOf c L y i a b) (hn : (n : Int) = b - a + 1) (K : ChkSays c) (hm : c.nm.size ≤ maxLen) (T : FTab w) :
    Calls Tryz.prog 70 #[.agg #[.string c.nm, .int .i64 c.k, .int .i64 c.d, .int .i64 c.m, .int .i64 c.s, .int .i64 c.sh, .int .i64 c.p0, .int .i64 c.p1, .int .i64 c.p2, .int .i64 c.cy, .int .i64 c.ex, .int .i64 c.fi, .int .i64 c.la, .int .i64 c.po], .agg #[.int .i64 L, .int .i64 y, .int .i64 i]] w (RowOut w (wkL y a n)) := by
  obtain ⟨j0, hi, hz0, hz1, hz2⟩ := info_parts rinfoU
  have C := CalIn.new w c 24
  have B := balloc (Below.refl _ w) (.cells #[.string c.nm, .int .i64 c.k, .int .i64 c.d, .int .i64 c.m, .int .i64 c.s, .int .i64 c.sh, .int .i64 c.p0, .int .i64 c.p1, .int .i64 c.p2, .int .i64 c.cy, .int .i64 c.ex, .int .i64 c.fi, .int .i64 c.la, .int .i64 c.po] 24)
  replace T := T.alloc (.cells #[.string c.nm, .int .i64 c.k, .int .i64 c.d, .int .i64 c.m, .int .i64 c.s, .int .i64 c.sh, .int .i64 c.p0, .int .i64 c.p1, .int .i64 c.p2, .int .i64 c.cy, .int .i64 c.ex, .int .i64 c.fi, .int .i64 c.la, .int .i64 c.po] 24)
  have U := Bx.Tri.new (w.alloc (.cells #[.string c.nm, .int .i64 c.k, .int .i64 c.d, .int .i64 c.m, .int .i64 c.s, .int .i64 c.sh, .int .i64 c.p0, .int .i64 c.p1, .int .i64 c.p2, .int .i64 c.cy, .int .i64 c.ex, .int .i64 c.fi, .int .i64 c.la, .int .i64 c.po] 24)) (.int .i64 L) (.int .i64 y) (.int .i64 i) 26
  rw [World.size_alloc] at U
  replace C := C.alloc (.cells #[.int .i64 L, .int .i64 y, .int .i64 i] 26)
  replace B := balloc B (.cells #[.int .i64 L, .int .i64 y, .int .i64 i] 26)
  replace T := T.alloc (.cells #[.int .i64 L, .int .i64 y, .int .i64 i] 26)
  have r := wkof_is u W
  have st := served_told u.1 u.2.2.1
  have ub := ucount_bd (L := 5) (y := y) u.1.1 (by omega) (by omega)
  have cd := fun w T => rDown_any c L y i 5 5 y a b 0 w (.inl ⟨u, u.2.1.2, by omega, W.1, W.2, rfl, rfl, rfl⟩) K hm T
  have ab : 1 ≤ a ∧ a ≤ b ∧ b ≤ 60 := by omega
  obtain ⟨a0, ab, b1⟩ := ab
  clear u W r st ub K
  go_enter Tryz.func70, Tryz.ntmps70
  go_upto_region 1 with fail
  generalize (w.alloc (.cells #[.string c.nm, .int .i64 c.k, .int .i64 c.d, .int .i64 c.m, .int .i64 c.s, .int .i64 c.sh, .int .i64 c.p0, .int .i64 c.p1, .int .i64 c.p2, .int .i64 c.cy, .int .i64 c.ex, .int .i64 c.fi, .int .i64 c.la, .int .i64 c.po] 24)).alloc (.cells #[.int .i64 L, .int .i64 y, .int .i64 i] 26) = W0 at *
  obtain ⟨_, c0, c1, c2, c3, c4, c5, c6, c7, c8, c9, c10, c11, c12, c13⟩ := id C
  obtain ⟨_, u0, u1, u2, fu0, fu1, fu2⟩ := id U
  go_wp2_with fail
  refine (cd _ T).mono ?_
  rintro e w1 ⟨rfl, hb⟩
  replace C := C.kept hb
  replace B := bthen B hb
  replace T := T.kept hb
  replace U := U.kept hb
  clear hb c0 c1 c2 c3 c4 c5 c6 c7 c8 c9 c10 c11 c12 c13 u0 u1 u2 fu0 fu1 fu2
  obtain ⟨_, c0, c1, c2, c3, c4, c5, c6, c7, c8, c9, c10, c11, c12, c13⟩ := id C
  obtain ⟨_, u0, u1, u2, fu0, fu1, fu2⟩ := id U
  have V := Bx.Tri.new w1 (.int .i64 5) (.int .i64 y) (.int .i64 a) 26
  have N := Bx.Tri.new (w1.alloc (.cells #[.int .i64 5, .int .i64 y, .int .i64 a] 26)) (.int .i64 5) (.int .i64 y) (.int .i64 b) 26
  rw [World.size_alloc] at N
  replace V := V.alloc (.cells #[.int .i64 5, .int .i64 y, .int .i64 b] 26)
  replace U := (U.alloc (.cells #[.int .i64 5, .int .i64 y, .int .i64 a] 26)).alloc (.cells #[.int .i64 5, .int .i64 y, .int .i64 b] 26)
  replace B := balloc (balloc B (.cells #[.int .i64 5, .int .i64 y, .int .i64 a] 26)) (.cells #[.int .i64 5, .int .i64 y, .int .i64 b] 26)
  clear u0 u1 u2 fu0 fu1 fu2 C T cd
  clear c0 c1 c2 c3 c4 c5 c6 c7 c8 c9 c10 c11 c12 c13 
  go_upto_region 3 with fail
  generalize (w1.alloc (.cells #[.int .i64 5, .int .i64 y, .int .i64 a] 26)).alloc (.cells #[.int .i64 5, .int .i64 y, .int .i64 b] 26) = WL at *
  obtain ⟨_, v0, v1, v2, fv0, fv1, fv2⟩ := id V
  go_wp2
  clear v0 v1 v2 fv0 fv1 fv2
  go_loopw [8, 9] (fun S I wr => ∃ k : Nat, k ≤ n ∧ I = .int .i64 (a + (k : Int)) ∧ One3 26 WL wr S (wkL y a k)) (fun _ I _ => (b + 1 - intOf I).toNat)
  case atStart => exact ⟨0, by omega, by simp, One3.start _ (Below.refl _ _)⟩
  case round =>
    obtain ⟨k, kn, rfl, X⟩ := hrel
    have N2 := N.kept X.below
    have U2 := U.kept X.below
    obtain ⟨_, n0, n1, n2, _, _, _⟩ := id N2
    obtain ⟨_, u0, u1, u2, fu0, fu1, fu2⟩ := id U2
    by_cases hlt : k < n
    · have le : a + (k : Int) ≤ b := by omega
      go_wp2_with (first
        | (at_builtin; refine wpList_append_own_at _ rfl _ _ 37 rfl WL.heap.size 26 j0 (.agg #[.int .i64 0, .int .i64 0, .int .i64 0]) 3 24 runderU hi hz0 hz1 hz2 rfl (by decide) _ (wkL y a k).length (ucells (wkL y a k)) rfl (X.a.alloc _) ⟨_, 0, none⟩ 1 1 [.int .i64 5, .int .i64 y, .int .i64 (a + (k : Int))] rfl rfl ?c1 ?c2 ?c3 ?c4 ?c5 ?m1))
      case c1 =>
        intro j u hj
        match j, hj with
        | 0, hj => simp at hj; subst hj; simp [Addr.add, go_sem]
        | 1, hj => simp at hj; subst hj; simp [Addr.add, go_sem]
        | 2, hj => simp at hj; subst hj; simp [Addr.add, go_sem]
      case c2 => intro u hu; simp at hu; rcases hu with rfl | rfl | rfl <;> rfl
      case c3 => rw [wkL_len]; unfold maxLen; omega
      case c4 => rw [wkL_len]; omega
      case c5 => have z1 := X.below.size; simp at z1 ⊢; omega
      case m1 =>
        intro v3 wz hown3 hg3 _ hat
        have X3 := X.next (u := (5, y, (a + (k : Int)))) hown3 hg3
        go_wp2
        go_roundw
        case rel => exact ⟨k + 1, by omega, by go_num, X3⟩
        case measure => simp [intOf]; omega
    · have gt : b < a + (k : Int) := by omega
      have kn' : k = n := by omega
      subst kn'
      obtain ⟨g, cap, rfl, _, _⟩ := X.a.form (by rw [wkL_len]; omega)
      have X2 := X.out rfl (by rw [wkL_len]; omega)
      go_wp2
      go_ret
      exact ⟨g, cap, rfl, X2.1, by have := B.size; omega, bthen B X.below, X2.2.2⟩

set_option maxRecDepth 100000 in
theorem rmonths_a (c : CalZ) (L y i t a b : Int) (n : Nat) (w : World) (hL : L ≠ 5) (u : UnitOk c L t i) (W : WkOf c L t i a b) (hn : (n : Int) = b - a + 1) (K : ChkSays c) (hm : c.nm.size ≤ maxLen) (T : FTab w) :
    Calls Tryz.prog 68 #[.agg #[.string c.nm, .int .i64 c.k, .int .i64 c.d, .int .i64 c.m, .int .i64 c.s, .int .i64 c.sh, .int .i64 c.p0, .int .i64 c.p1, .int .i64 c.p2, .int .i64 c.cy, .int .i64 c.ex, .int .i64 c.fi, .int .i64 c.la, .int .i64 c.po], .agg #[.int .i64 L, .int .i64 y, .int .i64 i], .int .i64 t] w (RowOut w (wkL t a n)) := by
  have C := CalIn.new w c 24
  have B := balloc (Below.refl _ w) (.cells #[.string c.nm, .int .i64 c.k, .int .i64 c.d, .int .i64 c.m, .int .i64 c.s, .int .i64 c.sh, .int .i64 c.p0, .int .i64 c.p1, .int .i64 c.p2, .int .i64 c.cy, .int .i64 c.ex, .int .i64 c.fi, .int .i64 c.la, .int .i64 c.po] 24)
  replace T := T.alloc (.cells #[.string c.nm, .int .i64 c.k, .int .i64 c.d, .int .i64 c.m, .int .i64 c.s, .int .i64 c.sh, .int .i64 c.p0, .int .i64 c.p1, .int .i64 c.p2, .int .i64 c.cy, .int .i64 c.ex, .int .i64 c.fi, .int .i64 c.la, .int .i64 c.po] 24)
  have U := Bx.Tri.new (w.alloc (.cells #[.string c.nm, .int .i64 c.k, .int .i64 c.d, .int .i64 c.m, .int .i64 c.s, .int .i64 c.sh, .int .i64 c.p0, .int .i64 c.p1, .int .i64 c.p2, .int .i64 c.cy, .int .i64 c.ex, .int .i64 c.fi, .int .i64 c.la, .int .i64 c.po] 24)) (.int .i64 L) (.int .i64 y) (.int .i64 i) 26
  rw [World.size_alloc] at U
  replace C := C.alloc (.cells #[.int .i64 L, .int .i64 y, .int .i64 i] 26)
  replace B := balloc B (.cells #[.int .i64 L, .int .i64 y, .int .i64 i] 26)
  replace T := T.alloc (.cells #[.int .i64 L, .int .i64 y, .int .i64 i] 26)
  have cw := fun w T => rwithin_any c L t i a b n w u W hn K hm T
  have d5 : (L != 5) = true := bne_iff_ne.2 hL
  clear u W K
  go_enter Tryz.func68, Tryz.ntmps68
  go_upto_region 1 with fail
  generalize (w.alloc (.cells #[.string c.nm, .int .i64 c.k, .int .i64 c.d, .int .i64 c.m, .int .i64 c.s, .int .i64 c.sh, .int .i64 c.p0, .int .i64 c.p1, .int .i64 c.p2, .int .i64 c.cy, .int .i64 c.ex, .int .i64 c.fi, .int .i64 c.la, .int .i64 c.po] 24)).alloc (.cells #[.int .i64 L, .int .i64 y, .int .i64 i] 26) = W0 at *
  obtain ⟨_, c0, c1, c2, c3, c4, c5, c6, c7, c8, c9, c10, c11, c12, c13⟩ := id C
  obtain ⟨_, u0, u1, u2, fu0, fu1, fu2⟩ := id U
  go_upto_region 3 with fail
  have V := Bx.Tri.new W0 (.int .i64 L) (.int .i64 t) (.int .i64 i) 26
  replace C := C.alloc (.cells #[.int .i64 L, .int .i64 t, .int .i64 i] 26)
  replace T := T.alloc (.cells #[.int .i64 L, .int .i64 t, .int .i64 i] 26)
  replace U := U.alloc (.cells #[.int .i64 L, .int .i64 t, .int .i64 i] 26)
  replace B := balloc B (.cells #[.int .i64 L, .int .i64 t, .int .i64 i] 26)
  clear c0 c1 c2 c3 c4 c5 c6 c7 c8 c9 c10 c11 c12 c13 u0 u1 u2 fu0 fu1 fu2
  obtain ⟨_, c0, c1, c2, c3, c4, c5, c6, c7, c8, c9, c10, c11, c12, c13⟩ := id C
  obtain ⟨_, u0, u1, u2, fu0, fu1, fu2⟩ := id U
  obtain ⟨_, v0, v1, v2, fv0, fv1, fv2⟩ := id V
  go_wp2_with fail
  refine (cw _ T).mono ?_
  rintro e w1 ⟨g, cap, rfl, Rw, hg, hb, hcap⟩
  replace C := C.kept hb
  replace B := bthen B hb
  replace T := T.kept hb
  replace U := U.kept hb
  replace V := V.kept hb
  clear hb c0 c1 c2 c3 c4 c5 c6 c7 c8 c9 c10 c11 c12 c13 u0 u1 u2 fu0 fu1 fu2 v0 v1 v2 fv0 fv1 fv2
  obtain ⟨_, c0, c1, c2, c3, c4, c5, c6, c7, c8, c9, c10, c11, c12, c13⟩ := id C
  obtain ⟨_, u0, u1, u2, fu0, fu1, fu2⟩ := id U
  obtain ⟨_, v0, v1, v2, fv0, fv1, fv2⟩ := id V
  have sz := B.size
  go_wp2
  go_ret
  exact ⟨g, cap, by simp, Rw, by omega, B, hcap⟩

set_option maxRecDepth 100000 in
theorem rmonths_b (c : CalZ) (y i t p a b a' b' : Int) (n n' : Nat) (w : World) (u : UnitOk c 5 y i) (hp : InU c y 4 (uend c y 5 (i - 1) + 1) p) (k6 : c.k = 6) (W : WkOf c 4 y p a b) (hn : (n : Int) = b - a + 1) (W' : WkOf c 4 t p a' b') (hn' : (n' : Int) = b' - a' + 1) (ai : a ≤ i) (st : Served c t) (K : ChkSays c) (hm : c.nm.size ≤ maxLen) (T : FTab w) :
    Calls Tryz.prog 68 #[.agg #[.string c.nm, .int .i64 c.k, .int .i64 c.d, .int .i64 c.m, .int .i64 c.s, .int .i64 c.sh, .int .i64 c.p0, .int .i64 c.p1, .int .i64 c.p2, .int .i64 c.cy, .int .i64 c.ex, .int .i64 c.fi, .int .i64 c.la, .int .i64 c.po], .agg #[.int .i64 5, .int .i64 y, .int .i64 i], .int .i64 t] w fun e w' => ∃ v, e = .returned v ∧ ULst w' v (if i - a ≤ b' - a' then [(5, t, a' + (i - a))] else []) ∧ Below w.heap.size w w' := by
  have C := CalIn.new w c 24
  have B := balloc (Below.refl _ w) (.cells #[.string c.nm, .int .i64 c.k, .int .i64 c.d, .int .i64 c.m, .int .i64 c.s, .int .i64 c.sh, .int .i64 c.p0, .int .i64 c.p1, .int .i64 c.p2, .int .i64 c.cy, .int .i64 c.ex, .int .i64 c.fi, .int .i64 c.la, .int .i64 c.po] 24)
  replace T := T.alloc (.cells #[.string c.nm, .int .i64 c.k, .int .i64 c.d, .int .i64 c.m, .int .i64 c.s, .int .i64 c.sh, .int .i64 c.p0, .int .i64 c.p1, .int .i64 c.p2, .int .i64 c.cy, .int .i64 c.ex, .int .i64 c.fi, .int .i64 c.la, .int .i64 c.po] 24)
  have U := Bx.Tri.new (w.alloc (.cells #[.string c.nm, .int .i64 c.k, .int .i64 c.d, .int .i64 c.m, .int .i64 c.s, .int .i64 c.sh, .int .i64 c.p0, .int .i64 c.p1, .int .i64 c.p2, .int .i64 c.cy, .int .i64 c.ex, .int .i64 c.fi, .int .i64 c.la, .int .i64 c.po] 24)) (.int .i64 5) (.int .i64 y) (.int .i64 i) 26
  rw [World.size_alloc] at U
  replace C := C.alloc (.cells #[.int .i64 5, .int .i64 y, .int .i64 i] 26)
  replace B := balloc B (.cells #[.int .i64 5, .int .i64 y, .int .i64 i] 26)
  replace T := T.alloc (.cells #[.int .i64 5, .int .i64 y, .int .i64 i] 26)
  have up : UnitOk c 4 y p := ⟨u.1, ⟨by omega, by omega⟩, u.2.2.1, hp.1, hp.2.1⟩
  have um := month_unit k6 up (by decide) st
  have r := wkof_is up W
  have r' := wkof_is um W'
  have ty := served_told u.1 u.2.2.1
  have tt := served_told u.1 st
  have ub := ucount_bd (L := 5) (y := y) u.1.1 (by omega) (by omega)
  have ub' := ucount_bd (L := 5) (y := t) u.1.1 (by omega) (by omega)
  have i60 : i ≤ 60 := by have := u.2.2.2.2; omega
  have cu := fun w T => rUp_any c 5 y i 4 4 y p 0 w (.inl ⟨u, by omega, by omega, hp, rfl, rfl, rfl⟩) K hm T
  have ca := fun w T => rDown_any c 4 y p 5 5 y a b 0 w (.inl ⟨up, by omega, by omega, W.1, W.2, rfl, rfl, rfl⟩) K hm T
  have cb := fun w T => rwithin_any c 4 t p a' b' n' w um W' hn' K hm T
  have a1 : 1 ≤ a ∧ a ≤ 60 := by omega
  have a1' : 1 ≤ a' ∧ b' ≤ 60 := by omega
  have nn : 1 ≤ n' ∧ n' ≤ 60 := by omega
  obtain ⟨j, hj⟩ : ∃ j : Nat, (j : Int) = i - a := ⟨(i - a).toNat, by omega⟩
  have hw : IntKind.i64.wrap (i - a) = (j : Int) := by rw [IntWalk.i64_in _ (by omega)]; omega
  have eqs : (if i - a ≤ b' - a' then [((5, t, a' + (i - a)) : U3)] else []) = (if j < n' then [(5, t, a' + (j : Int))] else []) := by
    rw [← hj]
    by_cases q : j < n'
    · rw [if_pos q, if_pos (by omega)]
    · rw [if_neg q, if_neg (by omega)]
  rw [eqs]
  have j60 : j ≤ 60 := by omega
  obtain ⟨ll, hll⟩ : ∃ ll, (if j < n' then [((5, t, a' + (j : Int)) : U3)] else []) = ll := ⟨_, rfl⟩
  rw [hll]
  have hl' := Lib.hid hll
  clear hll eqs hj ai u up um r r' ty tt ub ub' W W' hp k6 st K hn hn'
  go_enter Tryz.func68, Tryz.ntmps68
  go_upto_region 1 with fail
  generalize (w.alloc (.cells #[.string c.nm, .int .i64 c.k, .int .i64 c.d, .int .i64 c.m, .int .i64 c.s, .int .i64 c.sh, .int .i64 c.p0, .int .i64 c.p1, .int .i64 c.p2, .int .i64 c.cy, .int .i64 c.ex, .int .i64 c.fi, .int .i64 c.la, .int .i64 c.po] 24)).alloc (.cells #[.int .i64 5, .int .i64 y, .int .i64 i] 26) = W0 at *
  obtain ⟨_, c0, c1, c2, c3, c4, c5, c6, c7, c8, c9, c10, c11, c12, c13⟩ := id C
  obtain ⟨_, u0, u1, u2, fu0, fu1, fu2⟩ := id U
  go_upto_region 5 with fail
  have V := Bx.Tri.new W0 (.int .i64 5) (.int .i64 t) (.int .i64 i) 26
  replace C := C.alloc (.cells #[.int .i64 5, .int .i64 t, .int .i64 i] 26)
  replace T := T.alloc (.cells #[.int .i64 5, .int .i64 t, .int .i64 i] 26)
  replace U := U.alloc (.cells #[.int .i64 5, .int .i64 t, .int .i64 i] 26)
  replace B := balloc B (.cells #[.int .i64 5, .int .i64 t, .int .i64 i] 26)
  clear c0 c1 c2 c3 c4 c5 c6 c7 c8 c9 c10 c11 c12 c13 u0 u1 u2 fu0 fu1 fu2
  obtain ⟨_, c0, c1, c2, c3, c4, c5, c6, c7, c8, c9, c10, c11, c12, c13⟩ := id C
  obtain ⟨_, u0, u1, u2, fu0, fu1, fu2⟩ := id U
  obtain ⟨_, v0, v1, v2, fv0, fv1, fv2⟩ := id V
  go_wp2_with fail
  refine (cu _ T).mono ?_
  rintro e w1 ⟨rfl, hb⟩
  replace C := C.kept hb
  replace B := bthen B hb
  replace T := T.kept hb
  replace U := U.kept hb
  replace V := V.kept hb
  clear hb c0 c1 c2 c3 c4 c5 c6 c7 c8 c9 c10 c11 c12 c13 u0 u1 u2 fu0 fu1 fu2 v0 v1 v2 fv0 fv1 fv2
  obtain ⟨_, c0, c1, c2, c3, c4, c5, c6, c7, c8, c9, c10, c11, c12, c13⟩ := id C
  obtain ⟨_, u0, u1, u2, fu0, fu1, fu2⟩ := id U
  obtain ⟨_, v0, v1, v2, fv0, fv1, fv2⟩ := id V
  have Q3 := Bel.new w1
  have C3 := C
  have T3 := T
  have B3 := B
  have U3' := U
  have P := Bx.Tri.new w1 (.int .i64 4) (.int .i64 y) (.int .i64 p) 26
  obtain ⟨_⟩ := id Q3
  replace C := C.alloc (.cells #[.int .i64 4, .int .i64 y, .int .i64 p] 26)
  replace T := T.alloc (.cells #[.int .i64 4, .int .i64 y, .int .i64 p] 26)
  replace U := U.alloc (.cells #[.int .i64 4, .int .i64 y, .int .i64 p] 26)
  replace V := V.alloc (.cells #[.int .i64 4, .int .i64 y, .int .i64 p] 26)
  replace Q3 := Q3.alloc (.cells #[.int .i64 4, .int .i64 y, .int .i64 p] 26)
  replace B := balloc B (.cells #[.int .i64 4, .int .i64 y, .int .i64 p] 26)
  clear c0 c1 c2 c3 c4 c5 c6 c7 c8 c9 c10 c11 c12 c13 u0 u1 u2 fu0 fu1 fu2 v0 v1 v2 fv0 fv1 fv2
  obtain ⟨_, c0, c1, c2, c3, c4, c5, c6, c7, c8, c9, c10, c11, c12, c13⟩ := id C
  obtain ⟨_, u0, u1, u2, fu0, fu1, fu2⟩ := id U
  obtain ⟨_, v0, v1, v2, fv0, fv1, fv2⟩ := id V
  obtain ⟨_⟩ := id Q3
  obtain ⟨_, p0, p1, p2, fp0, fp1, fp2⟩ := id P
  go_wp2_with fail
  refine (ca _ T).mono ?_
  rintro e w2 ⟨rfl, hb⟩
  replace C := C.kept hb
  replace B := bthen B hb
  replace T := T.kept hb
  replace U := U.kept hb
  replace V := V.kept hb
  replace Q3 := Q3.kept hb
  replace P := P.kept hb
  clear hb c0 c1 c2 c3 c4 c5 c6 c7 c8 c9 c10 c11 c12 c13 u0 u1 u2 fu0 fu1 fu2 v0 v1 v2 fv0 fv1 fv2 p0 p1 p2 fp0 fp1 fp2
  obtain ⟨_, c0, c1, c2, c3, c4, c5, c6, c7, c8, c9, c10, c11, c12, c13⟩ := id C
  obtain ⟨_, u0, u1, u2, fu0, fu1, fu2⟩ := id U
  obtain ⟨_, v0, v1, v2, fv0, fv1, fv2⟩ := id V
  obtain ⟨_⟩ := id Q3
  obtain ⟨_, p0, p1, p2, fp0, fp1, fp2⟩ := id P
  go_upto_region 8 with fail
  have hS := bset Q3.b (Nat.le_refl _) 1 (.int .i64 t)
  replace P := P.set1 (.int .i64 t)
  clear u0 u1 u2 fu0 fu1 fu2 v0 v1 v2 fv0 fv1 fv2 p0 p1 p2 fp0 fp1 fp2 C T B V U
  clear c0 c1 c2 c3 c4 c5 c6 c7 c8 c9 c10 c11 c12 c13 
  obtain ⟨wS, hwS⟩ : ∃ wS, w2.setCell ⟨w1.heap.size, 1, none⟩ (.int .i64 t) = wS := ⟨_, rfl⟩
  rw [hwS] at hS P ⊢
  have C := C3.kept hS
  have T := T3.kept hS
  have B := bthen B3 hS
  have U := U3'.kept hS
  have zS : wS.heap.size = w2.heap.size := by rw [← hwS]; simp
  clear hwS hS Q3 C3 T3 B3 U3'
  obtain ⟨_, c0, c1, c2, c3, c4, c5, c6, c7, c8, c9, c10, c11, c12, c13⟩ := id C
  obtain ⟨_, u0, u1, u2, fu0, fu1, fu2⟩ := id U
  obtain ⟨_, p0, p1, p2, fp0, fp1, fp2⟩ := id P
  have F := Bx.Tri.new wS (.int .i64 5) (.int .i64 y) (.int .i64 a) 26
  rw [zS] at F
  clear zS
  replace C := C.alloc (.cells #[.int .i64 5, .int .i64 y, .int .i64 a] 26)
  replace T := T.alloc (.cells #[.int .i64 5, .int .i64 y, .int .i64 a] 26)
  replace U := U.alloc (.cells #[.int .i64 5, .int .i64 y, .int .i64 a] 26)
  replace P := P.alloc (.cells #[.int .i64 5, .int .i64 y, .int .i64 a] 26)
  replace B := balloc B (.cells #[.int .i64 5, .int .i64 y, .int .i64 a] 26)
  clear c0 c1 c2 c3 c4 c5 c6 c7 c8 c9 c10 c11 c12 c13 u0 u1 u2 fu0 fu1 fu2 p0 p1 p2 fp0 fp1 fp2
  obtain ⟨_, c0, c1, c2, c3, c4, c5, c6, c7, c8, c9, c10, c11, c12, c13⟩ := id C
  obtain ⟨_, u0, u1, u2, fu0, fu1, fu2⟩ := id U
  obtain ⟨_, p0, p1, p2, fp0, fp1, fp2⟩ := id P
  obtain ⟨_, f0, f1, f2, ff0, ff1, ff2⟩ := id F
  replace C := C.alloc (.cells #[.int .i64 5, .int .i64 y, .int .i64 b] 26)
  replace T := T.alloc (.cells #[.int .i64 5, .int .i64 y, .int .i64 b] 26)
  replace U := U.alloc (.cells #[.int .i64 5, .int .i64 y, .int .i64 b] 26)
  replace P := P.alloc (.cells #[.int .i64 5, .int .i64 y, .int .i64 b] 26)
  replace F := F.alloc (.cells #[.int .i64 5, .int .i64 y, .int .i64 b] 26)
  replace B := balloc B (.cells #[.int .i64 5, .int .i64 y, .int .i64 b] 26)
  clear c0 c1 c2 c3 c4 c5 c6 c7 c8 c9 c10 c11 c12 c13 u0 u1 u2 fu0 fu1 fu2 p0 p1 p2 fp0 fp1 fp2 f0 f1 f2 ff0 ff1 ff2
  obtain ⟨_, c0, c1, c2, c3, c4, c5, c6, c7, c8, c9, c10, c11, c12, c13⟩ := id C
  obtain ⟨_, u0, u1, u2, fu0, fu1, fu2⟩ := id U
  obtain ⟨_, p0, p1, p2, fp0, fp1, fp2⟩ := id P
  obtain ⟨_, f0, f1, f2, ff0, ff1, ff2⟩ := id F
  go_wp2_with fail
  refine (cb _ T).mono ?_
  rintro e w3 ⟨g, cap, rfl, Rw, hg, hb, hcap⟩
  replace C := C.kept hb
  replace B := bthen B hb
  replace T := T.kept hb
  replace U := U.kept hb
  replace P := P.kept hb
  replace F := F.kept hb
  clear hb c0 c1 c2 c3 c4 c5 c6 c7 c8 c9 c10 c11 c12 c13 u0 u1 u2 fu0 fu1 fu2 p0 p1 p2 fp0 fp1 fp2 f0 f1 f2 ff0 ff1 ff2
  obtain ⟨_, c0, c1, c2, c3, c4, c5, c6, c7, c8, c9, c10, c11, c12, c13⟩ := id C
  obtain ⟨_, u0, u1, u2, fu0, fu1, fu2⟩ := id U
  obtain ⟨_, p0, p1, p2, fp0, fp1, fp2⟩ := id P
  obtain ⟨_, f0, f1, f2, ff0, ff1, ff2⟩ := id F
  rw [wkL_len] at hcap ⊢
  by_cases q : j < n'
  · have rj := Rw.c j _ (wkL_at t a' n' j q)
    have dj : (j : Int) < n' := by omega
    go_wp2
    go_ret
    have e := hl'.out
    rw [if_pos q] at e
    subst e
    refine ⟨_, rfl, ⟨.inr ⟨g, j * 3, cap - j, ?_, Rw.lt, fun k u h => ?_⟩⟩, B⟩
    · simp [Addr.add]
    · cases k with
      | zero => simp at h; subst h; simpa using rj
      | succ m => simp at h
  · have dj : ¬ (j : Int) < n' := by omega
    go_wp2
    go_ret
    have e := hl'.out
    rw [if_neg q] at e
    subst e
    exact ⟨_, rfl, ⟨.inl ⟨rfl, rfl⟩⟩, B⟩

end Go.Proofs.YtkfogmaogfgcgaaGreatDoor.Br

namespace Go.Proofs.YtkfogmaogfgcgaaGreatDoor.Br
set_option linter.unusedSimpArgs false
set_option linter.unusedVariables false
open Go.RowKit Go.Maps Bn Bx Cp Am Fp Ap Ar Cm Em Ep Rk Hp Hr Ip Ir Rf Mr Br

set_option maxHeartbeats 8000000

set_option maxRecDepth 100000 in
theorem rtw_no (c : CalZ) (L y i k er : Int) (l : List U3) (w : World) (no : ¬ UnitOk c L y i) (ck : UChkA c L y i er) (hl : l = []) (K : ChkSays c) (hm : c.nm.size ≤ maxLen) (T : FTab w) :
    Calls Tryz.prog 27 #[.agg #[.string c.nm, .int .i64 c.k, .int .i64 c.d, .int .i64 c.m, .int .i64 c.s, .int .i64 c.sh, .int .i64 c.p0, .int .i64 c.p1, .int .i64 c.p2, .int .i64 c.cy, .int .i64 c.ex, .int .i64 c.fi, .int .i64 c.la, .int .i64 c.po], .agg #[.int .i64 L, .int .i64 y, .int .i64 i], .int .i64 k] w (LstTo w l er) := by
  have C := CalIn.new w c 24
  have B := balloc (Below.refl _ w) (.cells #[.string c.nm, .int .i64 c.k, .int .i64 c.d, .int .i64 c.m, .int .i64 c.s, .int .i64 c.sh, .int .i64 c.p0, .int .i64 c.p1, .int .i64 c.p2, .int .i64 c.cy, .int .i64 c.ex, .int .i64 c.fi, .int .i64 c.la, .int .i64 c.po] 24)
  replace T := T.alloc (.cells #[.string c.nm, .int .i64 c.k, .int .i64 c.d, .int .i64 c.m, .int .i64 c.s, .int .i64 c.sh, .int .i64 c.p0, .int .i64 c.p1, .int .i64 c.p2, .int .i64 c.cy, .int .i64 c.ex, .int .i64 c.fi, .int .i64 c.la, .int .i64 c.po] 24)
  have U := Bx.Tri.new (w.alloc (.cells #[.string c.nm, .int .i64 c.k, .int .i64 c.d, .int .i64 c.m, .int .i64 c.s, .int .i64 c.sh, .int .i64 c.p0, .int .i64 c.p1, .int .i64 c.p2, .int .i64 c.cy, .int .i64 c.ex, .int .i64 c.fi, .int .i64 c.la, .int .i64 c.po] 24)) (.int .i64 L) (.int .i64 y) (.int .i64 i) 26
  rw [World.size_alloc] at U
  replace C := C.alloc (.cells #[.int .i64 L, .int .i64 y, .int .i64 i] 26)
  replace B := balloc B (.cells #[.int .i64 L, .int .i64 y, .int .i64 i] 26)
  replace T := T.alloc (.cells #[.int .i64 L, .int .i64 y, .int .i64 i] 26)
  have ck := fun w T => rUCheck_any c L y i er w ck K hm T
  have n1 : (er != 0) = true := bne_iff_ne.2 (fun e => no ((uchka_ok (by assumption)).1 e))
  subst hl
  clear no K
  go_enter Tryz.func27, Tryz.ntmps27
  go_upto_region 1 with fail
  generalize (w.alloc (.cells #[.string c.nm, .int .i64 c.k, .int .i64 c.d, .int .i64 c.m, .int .i64 c.s, .int .i64 c.sh, .int .i64 c.p0, .int .i64 c.p1, .int .i64 c.p2, .int .i64 c.cy, .int .i64 c.ex, .int .i64 c.fi, .int .i64 c.la, .int .i64 c.po] 24)).alloc (.cells #[.int .i64 L, .int .i64 y, .int .i64 i] 26) = W0 at *
  obtain ⟨_, c0, c1, c2, c3, c4, c5, c6, c7, c8, c9, c10, c11, c12, c13⟩ := id C
  obtain ⟨_, u0, u1, u2, fu0, fu1, fu2⟩ := id U
  go_wp2_with fail
  refine (ck _ T).mono ?_
  rintro e w1 ⟨rfl, hb⟩
  replace C := C.kept hb
  replace B := bthen B hb
  replace T := T.kept hb
  replace U := U.kept hb
  clear hb c0 c1 c2 c3 c4 c5 c6 c7 c8 c9 c10 c11 c12 c13 u0 u1 u2 fu0 fu1 fu2
  obtain ⟨_, c0, c1, c2, c3, c4, c5, c6, c7, c8, c9, c10, c11, c12, c13⟩ := id C
  obtain ⟨_, u0, u1, u2, fu0, fu1, fu2⟩ := id U
  go_wp2
  refine bodyPost_ret (v := .tuple #[.slice none 0 0, .int .i64 er]) (by simp [results, Tryz.results27, go_sem, *]) rfl ⟨_, rfl, ⟨.inl ⟨rfl, rfl⟩⟩, B⟩
set_option maxRecDepth 100000 in
theorem rtw_out (c : CalZ) (L y i k er : Int) (l : List U3) (w : World) (u : UnitOk c L y i) (ns : ¬ Served c (y + k)) (hl : l = []) (he : er = 11) (K : ChkSays c) (hm : c.nm.size ≤ maxLen) (T : FTab w) :
    Calls Tryz.prog 27 #[.agg #[.string c.nm, .int .i64 c.k, .int .i64 c.d, .int .i64 c.m, .int .i64 c.s, .int .i64 c.sh, .int .i64 c.p0, .int .i64 c.p1, .int .i64 c.p2, .int .i64 c.cy, .int .i64 c.ex, .int .i64 c.fi, .int .i64 c.la, .int .i64 c.po], .agg #[.int .i64 L, .int .i64 y, .int .i64 i], .int .i64 k] w (LstTo w l er) := by
  have C := CalIn.new w c 24
  have B := balloc (Below.refl _ w) (.cells #[.string c.nm, .int .i64 c.k, .int .i64 c.d, .int .i64 c.m, .int .i64 c.s, .int .i64 c.sh, .int .i64 c.p0, .int .i64 c.p1, .int .i64 c.p2, .int .i64 c.cy, .int .i64 c.ex, .int .i64 c.fi, .int .i64 c.la, .int .i64 c.po] 24)
  replace T := T.alloc (.cells #[.string c.nm, .int .i64 c.k, .int .i64 c.d, .int .i64 c.m, .int .i64 c.s, .int .i64 c.sh, .int .i64 c.p0, .int .i64 c.p1, .int .i64 c.p2, .int .i64 c.cy, .int .i64 c.ex, .int .i64 c.fi, .int .i64 c.la, .int .i64 c.po] 24)
  have U := Bx.Tri.new (w.alloc (.cells #[.string c.nm, .int .i64 c.k, .int .i64 c.d, .int .i64 c.m, .int .i64 c.s, .int .i64 c.sh, .int .i64 c.p0, .int .i64 c.p1, .int .i64 c.p2, .int .i64 c.cy, .int .i64 c.ex, .int .i64 c.fi, .int .i64 c.la, .int .i64 c.po] 24)) (.int .i64 L) (.int .i64 y) (.int .i64 i) 26
  rw [World.size_alloc] at U
  replace C := C.alloc (.cells #[.int .i64 L, .int .i64 y, .int .i64 i] 26)
  replace B := balloc B (.cells #[.int .i64 L, .int .i64 y, .int .i64 i] 26)
  replace T := T.alloc (.cells #[.int .i64 L, .int .i64 y, .int .i64 i] 26)
  have ck := fun w T => rUCheck_any c L y i 0 w (uchka_of u) K hm T
  have cr := fun w => rserved20_any c (y + k) false w (.inr ⟨rfl, ns⟩)
  have ty := served_told u.1 u.2.2.1
  subst hl he
  clear ns K u
  by_cases h1 : k < -400
  · have q1 : decide (k < -400) = true := decide_eq_true h1
    go_enter Tryz.func27, Tryz.ntmps27
    go_upto_region 1 with fail
    generalize (w.alloc (.cells #[.string c.nm, .int .i64 c.k, .int .i64 c.d, .int .i64 c.m, .int .i64 c.s, .int .i64 c.sh, .int .i64 c.p0, .int .i64 c.p1, .int .i64 c.p2, .int .i64 c.cy, .int .i64 c.ex, .int .i64 c.fi, .int .i64 c.la, .int .i64 c.po] 24)).alloc (.cells #[.int .i64 L, .int .i64 y, .int .i64 i] 26) = W0 at *
    obtain ⟨_, c0, c1, c2, c3, c4, c5, c6, c7, c8, c9, c10, c11, c12, c13⟩ := id C
    obtain ⟨_, u0, u1, u2, fu0, fu1, fu2⟩ := id U
    go_wp2_with fail
    refine (ck _ T).mono ?_
    rintro e w1 ⟨rfl, hb⟩
    replace C := C.kept hb
    replace B := bthen B hb
    replace T := T.kept hb
    replace U := U.kept hb
    clear hb c0 c1 c2 c3 c4 c5 c6 c7 c8 c9 c10 c11 c12 c13 u0 u1 u2 fu0 fu1 fu2
    obtain ⟨_, c0, c1, c2, c3, c4, c5, c6, c7, c8, c9, c10, c11, c12, c13⟩ := id C
    obtain ⟨_, u0, u1, u2, fu0, fu1, fu2⟩ := id U
    go_wp2
    refine bodyPost_ret (v := .tuple #[.slice none 0 0, .int .i64 11]) (by simp [results, Tryz.results27, go_sem, *]) rfl ⟨_, rfl, ⟨.inl ⟨rfl, rfl⟩⟩, B⟩
  by_cases h2 : 400 < k
  · have q1 : decide (k < -400) = false := decide_eq_false h1
    have q2 : decide ((400 : Int) < k) = true := decide_eq_true h2
    go_enter Tryz.func27, Tryz.ntmps27
    go_upto_region 1 with fail
    generalize (w.alloc (.cells #[.string c.nm, .int .i64 c.k, .int .i64 c.d, .int .i64 c.m, .int .i64 c.s, .int .i64 c.sh, .int .i64 c.p0, .int .i64 c.p1, .int .i64 c.p2, .int .i64 c.cy, .int .i64 c.ex, .int .i64 c.fi, .int .i64 c.la, .int .i64 c.po] 24)).alloc (.cells #[.int .i64 L, .int .i64 y, .int .i64 i] 26) = W0 at *
    obtain ⟨_, c0, c1, c2, c3, c4, c5, c6, c7, c8, c9, c10, c11, c12, c13⟩ := id C
    obtain ⟨_, u0, u1, u2, fu0, fu1, fu2⟩ := id U
    go_wp2_with fail
    refine (ck _ T).mono ?_
    rintro e w2 ⟨rfl, hb⟩
    replace C := C.kept hb
    replace B := bthen B hb
    replace T := T.kept hb
    replace U := U.kept hb
    clear hb c0 c1 c2 c3 c4 c5 c6 c7 c8 c9 c10 c11 c12 c13 u0 u1 u2 fu0 fu1 fu2
    obtain ⟨_, c0, c1, c2, c3, c4, c5, c6, c7, c8, c9, c10, c11, c12, c13⟩ := id C
    obtain ⟨_, u0, u1, u2, fu0, fu1, fu2⟩ := id U
    go_wp2
    refine bodyPost_ret (v := .tuple #[.slice none 0 0, .int .i64 11]) (by simp [results, Tryz.results27, go_sem, *]) rfl ⟨_, rfl, ⟨.inl ⟨rfl, rfl⟩⟩, B⟩
  · have q1 : decide (k < -400) = false := decide_eq_false h1
    have q2 : decide ((400 : Int) < k) = false := decide_eq_false h2
    have ww1 : IntKind.i64.wrap (y + k) = y + k := IntWalk.i64_in _ (by omega)
    go_enter Tryz.func27, Tryz.ntmps27
    go_upto_region 1 with fail
    generalize (w.alloc (.cells #[.string c.nm, .int .i64 c.k, .int .i64 c.d, .int .i64 c.m, .int .i64 c.s, .int .i64 c.sh, .int .i64 c.p0, .int .i64 c.p1, .int .i64 c.p2, .int .i64 c.cy, .int .i64 c.ex, .int .i64 c.fi, .int .i64 c.la, .int .i64 c.po] 24)).alloc (.cells #[.int .i64 L, .int .i64 y, .int .i64 i] 26) = W0 at *
    obtain ⟨_, c0, c1, c2, c3, c4, c5, c6, c7, c8, c9, c10, c11, c12, c13⟩ := id C
    obtain ⟨_, u0, u1, u2, fu0, fu1, fu2⟩ := id U
    go_wp2_with fail
    refine (ck _ T).mono ?_
    rintro e w3 ⟨rfl, hb⟩
    replace C := C.kept hb
    replace B := bthen B hb
    replace T := T.kept hb
    replace U := U.kept hb
    clear hb c0 c1 c2 c3 c4 c5 c6 c7 c8 c9 c10 c11 c12 c13 u0 u1 u2 fu0 fu1 fu2
    obtain ⟨_, c0, c1, c2, c3, c4, c5, c6, c7, c8, c9, c10, c11, c12, c13⟩ := id C
    obtain ⟨_, u0, u1, u2, fu0, fu1, fu2⟩ := id U
    go_wp2_with fail
    refine (cr _).mono ?_
    rintro e w4 ⟨rfl, hb⟩
    replace C := C.kept hb
    replace B := bthen B hb
    replace T := T.kept hb
    replace U := U.kept hb
    clear hb c0 c1 c2 c3 c4 c5 c6 c7 c8 c9 c10 c11 c12 c13 u0 u1 u2 fu0 fu1 fu2
    obtain ⟨_, c0, c1, c2, c3, c4, c5, c6, c7, c8, c9, c10, c11, c12, c13⟩ := id C
    obtain ⟨_, u0, u1, u2, fu0, fu1, fu2⟩ := id U
    go_wp2
    refine bodyPost_ret (v := .tuple #[.slice none 0 0, .int .i64 11]) (by simp [results, Tryz.results27, go_sem, *]) rfl ⟨_, rfl, ⟨.inl ⟨rfl, rfl⟩⟩, B⟩
set_option maxRecDepth 100000 in
theorem rtw_months (c : CalZ) (L y i k er : Int) (l R : List U3) (w : World) (k6 : c.k = 6) (u : UnitOk c L y i) (st : Served c (y + k)) (RT : RawTo c R l er) (hR60 : R.length ≤ 60)
    (cm : ∀ w, FTab w → Calls Tryz.prog 68 #[.agg #[.string c.nm, .int .i64 c.k, .int .i64 c.d, .int .i64 c.m, .int .i64 c.s, .int .i64 c.sh, .int .i64 c.p0, .int .i64 c.p1, .int .i64 c.p2, .int .i64 c.cy, .int .i64 c.ex, .int .i64 c.fi, .int .i64 c.la, .int .i64 c.po], .agg #[.int .i64 L, .int .i64 y, .int .i64 i], .int .i64 (y + k)] w fun e w' => ∃ v, e = .returned v ∧ ULst w' v R ∧ Below w.heap.size w w') (K : ChkSays c) (hm : c.nm.size ≤ maxLen) (T : FTab w) :
    Calls Tryz.prog 27 #[.agg #[.string c.nm, .int .i64 c.k, .int .i64 c.d, .int .i64 c.m, .int .i64 c.s, .int .i64 c.sh, .int .i64 c.p0, .int .i64 c.p1, .int .i64 c.p2, .int .i64 c.cy, .int .i64 c.ex, .int .i64 c.fi, .int .i64 c.la, .int .i64 c.po], .agg #[.int .i64 L, .int .i64 y, .int .i64 i], .int .i64 k] w (LstTo w l er) := by
  have C := CalIn.new w c 24
  have B := balloc (Below.refl _ w) (.cells #[.string c.nm, .int .i64 c.k, .int .i64 c.d, .int .i64 c.m, .int .i64 c.s, .int .i64 c.sh, .int .i64 c.p0, .int .i64 c.p1, .int .i64 c.p2, .int .i64 c.cy, .int .i64 c.ex, .int .i64 c.fi, .int .i64 c.la, .int .i64 c.po] 24)
  replace T := T.alloc (.cells #[.string c.nm, .int .i64 c.k, .int .i64 c.d, .int .i64 c.m, .int .i64 c.s, .int .i64 c.sh, .int .i64 c.p0, .int .i64 c.p1, .int .i64 c.p2, .int .i64 c.cy, .int .i64 c.ex, .int .i64 c.fi, .int .i64 c.la, .int .i64 c.po] 24)
  have U := Bx.Tri.new (w.alloc (.cells #[.string c.nm, .int .i64 c.k, .int .i64 c.d, .int .i64 c.m, .int .i64 c.s, .int .i64 c.sh, .int .i64 c.p0, .int .i64 c.p1, .int .i64 c.p2, .int .i64 c.cy, .int .i64 c.ex, .int .i64 c.fi, .int .i64 c.la, .int .i64 c.po] 24)) (.int .i64 L) (.int .i64 y) (.int .i64 i) 26
  rw [World.size_alloc] at U
  replace C := C.alloc (.cells #[.int .i64 L, .int .i64 y, .int .i64 i] 26)
  replace B := balloc B (.cells #[.int .i64 L, .int .i64 y, .int .i64 i] 26)
  replace T := T.alloc (.cells #[.int .i64 L, .int .i64 y, .int .i64 i] 26)
  have R60 : R.length ≤ 60 := hR60
  have H12 : Hid (R = [] → er = 12 ∧ l = []) := Lib.hid (fun h => by
    subst h
    rcases RT with ⟨⟨j, u, hj, _⟩, _⟩ | ⟨_, hl, ⟨_, e⟩ | ⟨h, _⟩⟩
    · simp at hj
    · exact ⟨e, hl⟩
    · exact absurd rfl h)
  have HV : Hid (∀ (j : Nat) (u : U3), R[j]? = some u → (Served c u.2.1 ∧ ∀ w, Calls Tryz.prog 67 #[.agg #[.string c.nm, .int .i64 c.k, .int .i64 c.d, .int .i64 c.m, .int .i64 c.s, .int .i64 c.sh, .int .i64 c.p0, .int .i64 c.p1, .int .i64 c.p2, .int .i64 c.cy, .int .i64 c.ex, .int .i64 c.fi, .int .i64 c.la, .int .i64 c.po], .int .i64 u.2.1] w fun e w' => e = .returned (.bool true) ∧ Below w.heap.size w w') ∨ (er = 11 ∧ l = [] ∧ ∀ w, Calls Tryz.prog 67 #[.agg #[.string c.nm, .int .i64 c.k, .int .i64 c.d, .int .i64 c.m, .int .i64 c.s, .int .i64 c.sh, .int .i64 c.p0, .int .i64 c.p1, .int .i64 c.p2, .int .i64 c.cy, .int .i64 c.ex, .int .i64 c.fi, .int .i64 c.la, .int .i64 c.po], .int .i64 u.2.1] w fun e w' => e = .returned (.bool false) ∧ Below w.heap.size w w')) :=
    Lib.hid (fun j u hu => by
      by_cases s : Served c u.2.1
      · exact .inl ⟨s, fun w => rserved20_any c u.2.1 true w (.inl ⟨rfl, s⟩)⟩
      · rcases RT with ⟨_, hl, e⟩ | ⟨h, _⟩
        · exact .inr ⟨e, hl, fun w => rserved20_any c u.2.1 false w (.inr ⟨rfl, s⟩)⟩
        · exact absurd (h j u hu) s)
  have H0 : Hid (R ≠ [] → (∀ (j : Nat) (u : U3), R[j]? = some u → Served c u.2.1) → er = 0 ∧ l = R) := Lib.hid (fun h s => by
    rcases RT with ⟨⟨j, u, hj, n⟩, _⟩ | ⟨_, hl, ⟨e, _⟩ | ⟨_, e⟩⟩
    · exact absurd (s j u hj) n
    · exact absurd e h
    · exact ⟨e, hl⟩)
  have ck := fun w T => rUCheck_any c L y i 0 w (uchka_of u) K hm T
  have cs := fun w => rserved20_any c (y + k) true w (.inl ⟨rfl, st⟩)
  have ty := served_told u.1 u.2.2.1
  have tt := served_told u.1 st
  have kb : -400 ≤ k ∧ k ≤ 400 := by
    obtain ⟨s0, s1⟩ := u.2.2.1
    obtain ⟨q0, q1⟩ := st
    obtain ⟨o0, o1, o2, o3⟩ := u.1.2.2.1
    omega
  have q1 : decide (k < -400) = false := decide_eq_false (by omega)
  have q2 : decide ((400 : Int) < k) = false := decide_eq_false (by omega)
  have ww1 : IntKind.i64.wrap (y + k) = y + k := IntWalk.i64_in _ (by omega)
  have d6 : (c.k == 6) = true := by rw [k6]; rfl
  clear RT u st K hR60 k6
  go_enter Tryz.func27, Tryz.ntmps27
  go_upto_region 1 with fail
  generalize (w.alloc (.cells #[.string c.nm, .int .i64 c.k, .int .i64 c.d, .int .i64 c.m, .int .i64 c.s, .int .i64 c.sh, .int .i64 c.p0, .int .i64 c.p1, .int .i64 c.p2, .int .i64 c.cy, .int .i64 c.ex, .int .i64 c.fi, .int .i64 c.la, .int .i64 c.po] 24)).alloc (.cells #[.int .i64 L, .int .i64 y, .int .i64 i] 26) = W0 at *
  obtain ⟨_, c0, c1, c2, c3, c4, c5, c6, c7, c8, c9, c10, c11, c12, c13⟩ := id C
  obtain ⟨_, u0, u1, u2, fu0, fu1, fu2⟩ := id U
  go_wp2_with fail
  refine (ck _ T).mono ?_
  rintro e w1 ⟨rfl, hb⟩
  replace C := C.kept hb
  replace B := bthen B hb
  replace T := T.kept hb
  replace U := U.kept hb
  clear hb c0 c1 c2 c3 c4 c5 c6 c7 c8 c9 c10 c11 c12 c13 u0 u1 u2 fu0 fu1 fu2
  obtain ⟨_, c0, c1, c2, c3, c4, c5, c6, c7, c8, c9, c10, c11, c12, c13⟩ := id C
  obtain ⟨_, u0, u1, u2, fu0, fu1, fu2⟩ := id U
  go_wp2_with fail
  refine (cs _).mono ?_
  rintro e w2 ⟨rfl, hb⟩
  replace C := C.kept hb
  replace B := bthen B hb
  replace T := T.kept hb
  replace U := U.kept hb
  clear hb c0 c1 c2 c3 c4 c5 c6 c7 c8 c9 c10 c11 c12 c13 u0 u1 u2 fu0 fu1 fu2
  obtain ⟨_, c0, c1, c2, c3, c4, c5, c6, c7, c8, c9, c10, c11, c12, c13⟩ := id C
  obtain ⟨_, u0, u1, u2, fu0, fu1, fu2⟩ := id U
  go_wp2_with fail
  refine (cm _ T).mono ?_
  rintro e w3 ⟨vv, rfl, LL, hb⟩
  replace C := C.kept hb
  replace B := bthen B hb
  replace T := T.kept hb
  replace U := U.kept hb
  clear hb c0 c1 c2 c3 c4 c5 c6 c7 c8 c9 c10 c11 c12 c13 u0 u1 u2 fu0 fu1 fu2
  obtain ⟨_, c0, c1, c2, c3, c4, c5, c6, c7, c8, c9, c10, c11, c12, c13⟩ := id C
  obtain ⟨_, u0, u1, u2, fu0, fu1, fu2⟩ := id U
  clear ck cs cm u0 u1 u2 fu0 fu1 fu2
  clear c0 c1 c2 c3 c4 c5 c6 c7 c8 c9 c10 c11 c12 c13 
  rcases (show R = [] ∨ R ≠ [] by by_cases q : R = [] <;> simp [q]) with hR | hR
  · have e12 := H12.out hR
    obtain ⟨rfl, rfl⟩ := e12
    have hLL := LL
    rw [hR] at hLL
    have RR : R.length = 0 := by rw [hR]; rfl
    rcases hLL.o with ⟨_, rfl⟩ | ⟨g, off, cap, rfl, _⟩
    all_goals
      clear LL hLL
      go_wp2
      refine wp_loop_rounds 1 ?_
      rw [rounds_succ]
      go_wp2
      refine bodyPost_ret (v := .tuple #[.slice none 0 0, .int .i64 12]) (by simp [results, Tryz.results27, go_sem, *]) rfl ⟨_, rfl, ⟨.inl ⟨rfl, rfl⟩⟩, B⟩
  · have R0 : 0 < R.length := by cases R with
      | nil => exact absurd rfl hR
      | cons => simp
    have HR := Lib.hid hR
    clear hR
    rcases LL.o with ⟨q, _⟩ | ⟨g, off, cap, rfl, UA⟩
    · exact absurd q HR.out
    clear LL
    obtain ⟨N, hN⟩ : ∃ N, R.length = N := ⟨_, rfl⟩
    have HN := Lib.hid hN
    rw [hN] at R0 R60 ⊢
    clear hN
    go_wp2
    go_loopw [112] (fun J wr => ∃ j : Nat, j ≤ N ∧ J = .int .i64 (j : Int) ∧ Hid (∀ (q : Nat) (u : U3), q < j → R[q]? = some u → Served c u.2.1) ∧ Below w3.heap.size w3 wr) (fun J _ => N - (intOf J).toNat)
    case atStart => exact ⟨0, by omega, rfl, Lib.hid (fun q u h => absurd h (by omega)), Below.refl _ _⟩
    case round =>
      obtain ⟨j, jN, rfl, hs, B2⟩ := hrel
      have B3 := bthen B B2
      have UA2 := UA.kept B2
      have C2 := C.kept B2
      by_cases lt : j < N
      · obtain ⟨⟨u1, u2, u3⟩, hu⟩ : ∃ u, R[j]? = some u := ⟨_, List.getElem?_eq_getElem (by rw [HN.out]; exact lt)⟩
        obtain ⟨e0, e1, e2⟩ := UA2.c j _ hu
        simp only at e0 e1 e2
        have OO := HV.out j _ hu
        simp only at OO
        have HU := Lib.hid hu
        clear hu
        have jj : (j : Int) < (N : Int) := by omega
        have Z := Bx.Tri.new wr (.int .i64 u1) (.int .i64 u2) (.int .i64 u3) 26
        obtain ⟨_, c0, c1, c2, c3, c4, c5, c6, c7, c8, c9, c10, c11, c12, c13⟩ := id C2
        go_upto_region 27 with fail
        clear e0 e1 e2
        clear c0 c1 c2 c3 c4 c5 c6 c7 c8 c9 c10 c11 c12 c13 
        replace C2 := C2.alloc (.cells #[.int .i64 u1, .int .i64 u2, .int .i64 u3] 26)
        have B4 := balloc B2 (.cells #[.int .i64 u1, .int .i64 u2, .int .i64 u3] 26)
        have B5 := balloc B3 (.cells #[.int .i64 u1, .int .i64 u2, .int .i64 u3] 26)
        generalize wr.alloc (.cells #[.int .i64 u1, .int .i64 u2, .int .i64 u3] 26) = W9 at *
        obtain ⟨_, c0, c1, c2, c3, c4, c5, c6, c7, c8, c9, c10, c11, c12, c13⟩ := id C2
        obtain ⟨_, z0, z1, z2, fz0, fz1, fz2⟩ := id Z
        rcases OO with ⟨sv, cs⟩ | ⟨e11, hl, cs⟩
        · go_wp2_with fail
          refine (cs _).mono ?_
          rintro e w9 ⟨rfl, hb⟩
          replace B4 := bthen B4 hb
          clear z0 z1 z2 fz0 fz1 fz2 hb
          clear c0 c1 c2 c3 c4 c5 c6 c7 c8 c9 c10 c11 c12 c13 
          go_wp2
          go_roundw
          case rel =>
            exact ⟨j + 1, by omega, by go_num, Lib.hid (fun q u h1 h2 => by
              by_cases qj : q = j
              · subst qj
                rw [HU.out] at h2
                cases h2
                exact sv
              · exact hs.out q u (by omega) h2), B4⟩
          case measure => simp [intOf]; omega
        · subst e11 hl
          go_wp2_with fail
          refine (cs _).mono ?_
          rintro e w9 ⟨rfl, hb⟩
          replace B5 := bthen B5 hb
          clear z0 z1 z2 fz0 fz1 fz2 hb
          clear c0 c1 c2 c3 c4 c5 c6 c7 c8 c9 c10 c11 c12 c13 
          go_wp2
          refine bodyPost_ret (v := .tuple #[.slice none 0 0, .int .i64 11]) (by simp [results, Tryz.results27, go_sem, *]) rfl ⟨_, rfl, ⟨.inl ⟨rfl, rfl⟩⟩, B5⟩
      · obtain rfl : j = N := by omega
        have jj : ¬ (j : Int) < (j : Int) := by omega
        have nz : ((j : Int) == 0) = false := beq_eq_false_iff_ne.2 (by omega)
        have nz2 : ¬ j = 0 := by omega
        obtain ⟨rfl, hlR⟩ := H0.out HR.out (fun q u h => hs.out q u (by have := (List.getElem?_eq_some_iff.1 h).1; have := HN.out; omega) h)
        have Q : ULst wr (.slice (some ⟨g, off, none⟩) j cap) l := ⟨.inr ⟨g, off, cap, by rw [hlR, HN.out], by rw [hlR]; exact UA2⟩⟩
        have HQ := Lib.hid Q
        clear Q hlR UA UA2
        go_wp2
        refine bodyPost_ret (v := .tuple #[.slice (some ⟨g, off, none⟩) j cap, .int .i64 0]) (by simp [results, Tryz.results27, go_sem, *]) rfl ⟨_, rfl, HQ.out, B3⟩
set_option maxRecDepth 100000 in
theorem rtw_weeks (c : CalZ) (L y i k a b er : Int) (n : Nat) (l R : List U3) (w : World) (k6 : c.k ≠ 6) (u : UnitOk c L y i) (st : Served c (y + k)) (W : WkOf c L y i a b) (hn : (n : Int) = b - a + 1) (a0 : 1 ≤ a) (ab : a ≤ b) (bn : b ≤ nweeks c y) (hR : R = rawL c y (y + k) a n) (RT : RawTo c R l er) (hR60 : R.length ≤ 60) (K : ChkSays c) (hm : c.nm.size ≤ maxLen) (T : FTab w) :
    Calls Tryz.prog 27 #[.agg #[.string c.nm, .int .i64 c.k, .int .i64 c.d, .int .i64 c.m, .int .i64 c.s, .int .i64 c.sh, .int .i64 c.p0, .int .i64 c.p1, .int .i64 c.p2, .int .i64 c.cy, .int .i64 c.ex, .int .i64 c.fi, .int .i64 c.la, .int .i64 c.po], .agg #[.int .i64 L, .int .i64 y, .int .i64 i], .int .i64 k] w (LstTo w l er) := by
  obtain ⟨j0, hi, hz0, hz1, hz2⟩ := info_parts rinfoU
  have C := CalIn.new w c 24
  have B := balloc (Below.refl _ w) (.cells #[.string c.nm, .int .i64 c.k, .int .i64 c.d, .int .i64 c.m, .int .i64 c.s, .int .i64 c.sh, .int .i64 c.p0, .int .i64 c.p1, .int .i64 c.p2, .int .i64 c.cy, .int .i64 c.ex, .int .i64 c.fi, .int .i64 c.la, .int .i64 c.po] 24)
  replace T := T.alloc (.cells #[.string c.nm, .int .i64 c.k, .int .i64 c.d, .int .i64 c.m, .int .i64 c.s, .int .i64 c.sh, .int .i64 c.p0, .int .i64 c.p1, .int .i64 c.p2, .int .i64 c.cy, .int .i64 c.ex, .int .i64 c.fi, .int .i64 c.la, .int .i64 c.po] 24)
  have U := Bx.Tri.new (w.alloc (.cells #[.string c.nm, .int .i64 c.k, .int .i64 c.d, .int .i64 c.m, .int .i64 c.s, .int .i64 c.sh, .int .i64 c.p0, .int .i64 c.p1, .int .i64 c.p2, .int .i64 c.cy, .int .i64 c.ex, .int .i64 c.fi, .int .i64 c.la, .int .i64 c.po] 24)) (.int .i64 L) (.int .i64 y) (.int .i64 i) 26
  rw [World.size_alloc] at U
  replace C := C.alloc (.cells #[.int .i64 L, .int .i64 y, .int .i64 i] 26)
  replace B := balloc B (.cells #[.int .i64 L, .int .i64 y, .int .i64 i] 26)
  replace T := T.alloc (.cells #[.int .i64 L, .int .i64 y, .int .i64 i] 26)
  have R60 : R.length ≤ 60 := hR60
  have H12 : Hid (R = [] → er = 12 ∧ l = []) := Lib.hid (fun h => by
    subst h
    rcases RT with ⟨⟨j, u, hj, _⟩, _⟩ | ⟨_, hl, ⟨_, e⟩ | ⟨h, _⟩⟩
    · simp at hj
    · exact ⟨e, hl⟩
    · exact absurd rfl h)
  have HV : Hid (∀ (j : Nat) (u : U3), R[j]? = some u → (Served c u.2.1 ∧ ∀ w, Calls Tryz.prog 67 #[.agg #[.string c.nm, .int .i64 c.k, .int .i64 c.d, .int .i64 c.m, .int .i64 c.s, .int .i64 c.sh, .int .i64 c.p0, .int .i64 c.p1, .int .i64 c.p2, .int .i64 c.cy, .int .i64 c.ex, .int .i64 c.fi, .int .i64 c.la, .int .i64 c.po], .int .i64 u.2.1] w fun e w' => e = .returned (.bool true) ∧ Below w.heap.size w w') ∨ (er = 11 ∧ l = [] ∧ ∀ w, Calls Tryz.prog 67 #[.agg #[.string c.nm, .int .i64 c.k, .int .i64 c.d, .int .i64 c.m, .int .i64 c.s, .int .i64 c.sh, .int .i64 c.p0, .int .i64 c.p1, .int .i64 c.p2, .int .i64 c.cy, .int .i64 c.ex, .int .i64 c.fi, .int .i64 c.la, .int .i64 c.po], .int .i64 u.2.1] w fun e w' => e = .returned (.bool false) ∧ Below w.heap.size w w')) :=
    Lib.hid (fun j u hu => by
      by_cases s : Served c u.2.1
      · exact .inl ⟨s, fun w => rserved20_any c u.2.1 true w (.inl ⟨rfl, s⟩)⟩
      · rcases RT with ⟨_, hl, e⟩ | ⟨h, _⟩
        · exact .inr ⟨e, hl, fun w => rserved20_any c u.2.1 false w (.inr ⟨rfl, s⟩)⟩
        · exact absurd (h j u hu) s)
  have H0 : Hid (R ≠ [] → (∀ (j : Nat) (u : U3), R[j]? = some u → Served c u.2.1) → er = 0 ∧ l = R) := Lib.hid (fun h s => by
    rcases RT with ⟨⟨j, u, hj, n⟩, _⟩ | ⟨_, hl, ⟨e, _⟩ | ⟨_, e⟩⟩
    · exact absurd (s j u hj) n
    · exact absurd e h
    · exact ⟨e, hl⟩)
  have ck := fun w T => rUCheck_any c L y i 0 w (uchka_of u) K hm T
  have cs := fun w => rserved20_any c (y + k) true w (.inl ⟨rfl, st⟩)
  have ty := served_told u.1 u.2.2.1
  have tt := served_told u.1 st
  have kb : -400 ≤ k ∧ k ≤ 400 := by
    obtain ⟨s0, s1⟩ := u.2.2.1
    obtain ⟨q0, q1⟩ := st
    obtain ⟨o0, o1, o2, o3⟩ := u.1.2.2.1
    omega
  have q1 : decide (k < -400) = false := decide_eq_false (by omega)
  have q2 : decide ((400 : Int) < k) = false := decide_eq_false (by omega)
  have ww1 : IntKind.i64.wrap (y + k) = y + k := IntWalk.i64_in _ (by omega)
  have d6 : (c.k == 6) = false := beq_eq_false_iff_ne.2 k6
  obtain ⟨m, hm'⟩ : ∃ m, m = nweeks c (y + k) := ⟨_, rfl⟩
  obtain ⟨mp, hmp⟩ : ∃ mp, mp = nweeks c (y + k - 1) := ⟨_, rfl⟩
  have nb := (nweeks_01 u.1.1 k6 (y := y) (by omega) (by omega)).1
  have mb := (nweeks_01 u.1.1 k6 (y := y + k) (by omega) (by omega)).1
  have cn := fun w => rWeeks_any c (y + k) m 0 w (.inl ⟨u.1, k6, by omega, by omega, hm', rfl⟩) K
  have cp := fun w => rWeeks_any c (y + k - 1) mp 0 w (.inl ⟨u.1, k6, by omega, by omega, hmp, rfl⟩) K
  have cw := fun w T => rwithin_any c L y i a b n w u W hn K hm T
  have FW : Hid (∀ j : Nat, j < n → ((rawL c y (y + k) a (j + 1)) = (rawL c y (y + k) a j) ∧ ∀ w, FTab w → Calls Tryz.prog 63 #[.agg #[.string c.nm, .int .i64 c.k, .int .i64 c.d, .int .i64 c.m, .int .i64 c.s, .int .i64 c.sh, .int .i64 c.p0, .int .i64 c.p1, .int .i64 c.p2, .int .i64 c.cy, .int .i64 c.ex, .int .i64 c.fi, .int .i64 c.la, .int .i64 c.po], .int .i64 y, .int .i64 (y + k), .int .i64 (a + (j : Int))] w fun e w' => e = .returned (.tuple #[.int .i64 0, .int .i64 12]) ∧ Below w.heap.size w w') ∨ (∃ v : Int, 0 ≤ v ∧ v ≤ 54 ∧ (∀ w, FTab w → Calls Tryz.prog 63 #[.agg #[.string c.nm, .int .i64 c.k, .int .i64 c.d, .int .i64 c.m, .int .i64 c.s, .int .i64 c.sh, .int .i64 c.p0, .int .i64 c.p1, .int .i64 c.p2, .int .i64 c.cy, .int .i64 c.ex, .int .i64 c.fi, .int .i64 c.la, .int .i64 c.po], .int .i64 y, .int .i64 (y + k), .int .i64 (a + (j : Int))] w fun e w' => e = .returned (.tuple #[.int .i64 v, .int .i64 0]) ∧ Below w.heap.size w w') ∧ ((decide (v < 1) = true ∧ decide (m < v) = false ∧ (rawL c y (y + k) a (j + 1)) = (rawL c y (y + k) a j) ++ [(5, y + k - 1, mp)]) ∨ (decide (v < 1) = false ∧ decide (m < v) = true ∧ (rawL c y (y + k) a (j + 1)) = (rawL c y (y + k) a j) ++ [(5, y + k + 1, v - m)]) ∨ (decide (v < 1) = false ∧ decide (m < v) = false ∧ (rawL c y (y + k) a (j + 1)) = (rawL c y (y + k) a j) ++ [(5, y + k, v)])))) :=
    Lib.hid (fun j hj => by
      rcases polF_is (y := y) (t := y + k) (x := a + (j : Int)) u.1 k6 with ⟨v, hp, PA⟩ | ⟨hp, PA⟩
      · have vb := polF_bd u.1 k6 (y := y) (t := y + k) (x := a + (j : Int)) (by omega) (by omega) (by omega) (by omega) (by omega) (by omega) hp
        refine .inr ⟨v, vb.1, by omega, fun w T => rWeek_any c y (y + k) (a + (j : Int)) v 0 w (.inl ⟨u.1, k6, u.2.2.1, st, by omega, by omega, PA⟩) K hm T, ?_⟩
        rw [rawL_some hp]
        unfold rawW
        by_cases h1 : v < 1
        · exact .inl ⟨decide_eq_true h1, decide_eq_false (by omega), by rw [if_pos h1, hmp]⟩
        · by_cases h2 : m < v
          · exact .inr (.inl ⟨decide_eq_false h1, decide_eq_true h2, by rw [if_neg h1, if_pos (by omega), hm']⟩)
          · exact .inr (.inr ⟨decide_eq_false h1, decide_eq_false h2, by rw [if_neg h1, if_neg (by omega)]⟩)
      · exact .inl ⟨rawL_none hp, fun w T => rWeek_any c y (y + k) (a + (j : Int)) 0 12 w (.inl ⟨u.1, k6, u.2.2.1, st, by omega, by omega, PA⟩) K hm T⟩)
  have HLen : Hid (∀ j, j ≤ n → (rawL c y (y + k) a j).length ≤ 60) := Lib.hid (fun j hj => by have := rawL_len c y (y + k) a j; omega)
  have HRn := Lib.hid hR
  have n60 : n ≤ 60 := by omega
  have n1 : 1 ≤ n := by omega
  have m60 : 52 ≤ m ∧ m ≤ 53 := by omega
  have ab2 : 1 ≤ a ∧ a ≤ 60 := by omega
  have tt2 := tt
  clear RT u st K hR60 k6 W hn ab bn hR hm' hmp nb mb
  go_enter Tryz.func27, Tryz.ntmps27
  go_upto_region 1 with fail
  generalize (w.alloc (.cells #[.string c.nm, .int .i64 c.k, .int .i64 c.d, .int .i64 c.m, .int .i64 c.s, .int .i64 c.sh, .int .i64 c.p0, .int .i64 c.p1, .int .i64 c.p2, .int .i64 c.cy, .int .i64 c.ex, .int .i64 c.fi, .int .i64 c.la, .int .i64 c.po] 24)).alloc (.cells #[.int .i64 L, .int .i64 y, .int .i64 i] 26) = W0 at *
  obtain ⟨_, c0, c1, c2, c3, c4, c5, c6, c7, c8, c9, c10, c11, c12, c13⟩ := id C
  obtain ⟨_, u0, u1, u2, fu0, fu1, fu2⟩ := id U
  go_wp2_with fail
  refine (ck _ T).mono ?_
  rintro e w1 ⟨rfl, hb⟩
  replace C := C.kept hb
  replace B := bthen B hb
  replace T := T.kept hb
  replace U := U.kept hb
  clear hb c0 c1 c2 c3 c4 c5 c6 c7 c8 c9 c10 c11 c12 c13 u0 u1 u2 fu0 fu1 fu2
  obtain ⟨_, c0, c1, c2, c3, c4, c5, c6, c7, c8, c9, c10, c11, c12, c13⟩ := id C
  obtain ⟨_, u0, u1, u2, fu0, fu1, fu2⟩ := id U
  go_wp2_with fail
  refine (cs _).mono ?_
  rintro e w2 ⟨rfl, hb⟩
  replace C := C.kept hb
  replace B := bthen B hb
  replace T := T.kept hb
  replace U := U.kept hb
  clear hb c0 c1 c2 c3 c4 c5 c6 c7 c8 c9 c10 c11 c12 c13 u0 u1 u2 fu0 fu1 fu2
  obtain ⟨_, c0, c1, c2, c3, c4, c5, c6, c7, c8, c9, c10, c11, c12, c13⟩ := id C
  obtain ⟨_, u0, u1, u2, fu0, fu1, fu2⟩ := id U
  go_wp2_with fail
  refine (cn _).mono ?_
  rintro e w3 ⟨rfl, hb⟩
  replace C := C.kept hb
  replace B := bthen B hb
  replace T := T.kept hb
  replace U := U.kept hb
  clear hb c0 c1 c2 c3 c4 c5 c6 c7 c8 c9 c10 c11 c12 c13 u0 u1 u2 fu0 fu1 fu2
  obtain ⟨_, c0, c1, c2, c3, c4, c5, c6, c7, c8, c9, c10, c11, c12, c13⟩ := id C
  obtain ⟨_, u0, u1, u2, fu0, fu1, fu2⟩ := id U
  go_wp2_with fail
  refine (cp _).mono ?_
  rintro e w4 ⟨rfl, hb⟩
  replace C := C.kept hb
  replace B := bthen B hb
  replace T := T.kept hb
  replace U := U.kept hb
  clear hb c0 c1 c2 c3 c4 c5 c6 c7 c8 c9 c10 c11 c12 c13 u0 u1 u2 fu0 fu1 fu2
  obtain ⟨_, c0, c1, c2, c3, c4, c5, c6, c7, c8, c9, c10, c11, c12, c13⟩ := id C
  obtain ⟨_, u0, u1, u2, fu0, fu1, fu2⟩ := id U
  go_wp2_with fail
  refine (cw _ T).mono ?_
  rintro e w5 ⟨gw, capw, rfl, Rw, hgw, hb, hcapw⟩
  replace C := C.kept hb
  replace B := bthen B hb
  replace T := T.kept hb
  replace U := U.kept hb
  clear hb c0 c1 c2 c3 c4 c5 c6 c7 c8 c9 c10 c11 c12 c13 u0 u1 u2 fu0 fu1 fu2
  obtain ⟨_, c0, c1, c2, c3, c4, c5, c6, c7, c8, c9, c10, c11, c12, c13⟩ := id C
  obtain ⟨_, u0, u1, u2, fu0, fu1, fu2⟩ := id U
  rw [wkL_len]
  clear ck cs cn cp cw hgw
  go_wp2
  clear u0 u1 u2 fu0 fu1 fu2
  clear c0 c1 c2 c3 c4 c5 c6 c7 c8 c9 c10 c11 c12 c13 
  go_loopw [10, 71] (fun S J wr => ∃ j : Nat, j ≤ n ∧ J = .int .i64 (j : Int) ∧ One3 26 w5 wr S (rawL c y (y + k) a j)) (fun _ J _ => n - (intOf J).toNat)
  case atStart => exact ⟨0, by omega, rfl, One3.start _ (Below.refl _ _)⟩
  case round =>
    obtain ⟨j, jn, rfl, X⟩ := hrel
    by_cases lt : j < n
    · have FJ := FW.out j lt
      obtain ⟨e0, e1, e2⟩ := (Rw.kept X.below).c j _ (wkL_at y a n j lt)
      simp only at e0 e1 e2
      have C2 := C.kept X.below
      have T2 := T.kept X.below
      have U2 := U.kept X.below
      have jj : (j : Int) < (n : Int) := by omega
      have Z := Bx.Tri.new wr (.int .i64 5) (.int .i64 y) (.int .i64 (a + (j : Int))) 26
      go_upto_region 15 with fail
      clear e0 e1 e2
      replace C2 := C2.alloc (.cells #[.int .i64 5, .int .i64 y, .int .i64 (a + (j : Int))] 26)
      replace T2 := T2.alloc (.cells #[.int .i64 5, .int .i64 y, .int .i64 (a + (j : Int))] 26)
      replace U2 := U2.alloc (.cells #[.int .i64 5, .int .i64 y, .int .i64 (a + (j : Int))] 26)
      replace X := X.alloc (.cells #[.int .i64 5, .int .i64 y, .int .i64 (a + (j : Int))] 26)
      generalize wr.alloc (.cells #[.int .i64 5, .int .i64 y, .int .i64 (a + (j : Int))] 26) = W9 at *
      obtain ⟨_, c0, c1, c2, c3, c4, c5, c6, c7, c8, c9, c10, c11, c12, c13⟩ := id C2
      obtain ⟨_, z0, z1, z2, fz0, fz1, fz2⟩ := id Z
      obtain ⟨_, u0, u1, u2, fu0, fu1, fu2⟩ := id U2
      rcases FJ with ⟨he, cwk⟩ | ⟨v, v0, v1, cwk, AL⟩
      · have HE := Lib.hid he
        clear he
        go_wp2_with fail
        refine (cwk _ T2).mono ?_
        rintro e w9 ⟨rfl, hb⟩
        replace X := X.kept hb
        clear z0 z1 z2 fz0 fz1 fz2 u0 u1 u2 fu0 fu1 fu2 hb cwk
        clear c0 c1 c2 c3 c4 c5 c6 c7 c8 c9 c10 c11 c12 c13 
        go_wp2
        go_roundw
        case rel => exact ⟨j + 1, by omega, by go_num, by rw [HE.out]; exact X⟩
        case measure => simp [intOf]; omega
      · go_wp2_with fail
        refine (cwk _ T2).mono ?_
        rintro e w9 ⟨rfl, hb⟩
        replace X := X.kept hb
        clear z0 z1 z2 fz0 fz1 fz2 u0 u1 u2 fu0 fu1 fu2 hb cwk C2 T2 U2 Z
        clear c0 c1 c2 c3 c4 c5 c6 c7 c8 c9 c10 c11 c12 c13 
        rcases AL with ⟨t1, t2, he⟩ | ⟨t1, t2, he⟩ | ⟨t1, t2, he⟩
        · have HE := Lib.hid he
          clear he
          replace X := X.alloc (.cells #[.int .i64 5, .int .i64 (y + k - 1), .int .i64 mp] 26)
          go_wp2_with (first
            | (at_builtin; refine wpList_append_own_at _ rfl _ _ 37 rfl w5.heap.size 26 j0 (.agg #[.int .i64 0, .int .i64 0, .int .i64 0]) 3 24 runderU hi hz0 hz1 hz2 rfl (by decide) _ (rawL c y (y + k) a j).length (ucells (rawL c y (y + k) a j)) rfl (X.a.alloc _) ⟨_, 0, none⟩ 1 1 [.int .i64 5, .int .i64 (y + k - 1), .int .i64 mp] rfl rfl ?c1 ?c2 ?c3 ?c4 ?c5 ?m1))
          case c1 =>
            intro j u hj
            match j, hj with
            | 0, hj => simp at hj; subst hj; simp [Addr.add, go_sem]
            | 1, hj => simp at hj; subst hj; simp [Addr.add, go_sem]
            | 2, hj => simp at hj; subst hj; simp [Addr.add, go_sem]
          case c2 => intro u hu; simp at hu; rcases hu with rfl | rfl | rfl <;> rfl
          case c3 => have := HLen.out j (by omega); unfold maxLen; omega
          case c4 => have := HLen.out j (by omega); omega
          case c5 => have z1 := X.below.size; simp at z1 ⊢; omega
          case m1 =>
            intro v3 wz hown3 hg3 _ hat
            have X3 := X.next (u := (5, (y + k - 1), mp)) hown3 hg3
            have X5 : One3 26 w5 wz v3 (rawL c y (y + k) a (j + 1)) := by
              rw [HE.out]
              exact X3
            clear X3
            go_wp2
            go_roundw
            case rel => exact ⟨j + 1, by omega, by go_num, X5⟩
            case measure => simp [intOf]; omega
        · have HE := Lib.hid he
          clear he
          replace X := X.alloc (.cells #[.int .i64 5, .int .i64 (y + k + 1), .int .i64 (v - m)] 26)
          go_wp2_with (first
            | (at_builtin; refine wpList_append_own_at _ rfl _ _ 37 rfl w5.heap.size 26 j0 (.agg #[.int .i64 0, .int .i64 0, .int .i64 0]) 3 24 runderU hi hz0 hz1 hz2 rfl (by decide) _ (rawL c y (y + k) a j).length (ucells (rawL c y (y + k) a j)) rfl (X.a.alloc _) ⟨_, 0, none⟩ 1 1 [.int .i64 5, .int .i64 (y + k + 1), .int .i64 (v - m)] rfl rfl ?c1 ?c2 ?c3 ?c4 ?c5 ?m1))
          case c1 =>
            intro j u hj
            match j, hj with
            | 0, hj => simp at hj; subst hj; simp [Addr.add, go_sem]
            | 1, hj => simp at hj; subst hj; simp [Addr.add, go_sem]
            | 2, hj => simp at hj; subst hj; simp [Addr.add, go_sem]
          case c2 => intro u hu; simp at hu; rcases hu with rfl | rfl | rfl <;> rfl
          case c3 => have := HLen.out j (by omega); unfold maxLen; omega
          case c4 => have := HLen.out j (by omega); omega
          case c5 => have z1 := X.below.size; simp at z1 ⊢; omega
          case m1 =>
            intro v3 wz hown3 hg3 _ hat
            have X3 := X.next (u := (5, (y + k + 1), (v - m))) hown3 hg3
            have X5 : One3 26 w5 wz v3 (rawL c y (y + k) a (j + 1)) := by
              rw [HE.out]
              exact X3
            clear X3
            go_wp2
            go_roundw
            case rel => exact ⟨j + 1, by omega, by go_num, X5⟩
            case measure => simp [intOf]; omega
        · have HE := Lib.hid he
          clear he
          replace X := X.alloc (.cells #[.int .i64 5, .int .i64 (y + k), .int .i64 v] 26)
          go_wp2_with (first
            | (at_builtin; refine wpList_append_own_at _ rfl _ _ 37 rfl w5.heap.size 26 j0 (.agg #[.int .i64 0, .int .i64 0, .int .i64 0]) 3 24 runderU hi hz0 hz1 hz2 rfl (by decide) _ (rawL c y (y + k) a j).length (ucells (rawL c y (y + k) a j)) rfl (X.a.alloc _) ⟨_, 0, none⟩ 1 1 [.int .i64 5, .int .i64 (y + k), .int .i64 v] rfl rfl ?c1 ?c2 ?c3 ?c4 ?c5 ?m1))
          case c1 =>
            intro j u hj
            match j, hj with
            | 0, hj => simp at hj; subst hj; simp [Addr.add, go_sem]
            | 1, hj => simp at hj; subst hj; simp [Addr.add, go_sem]
            | 2, hj => simp at hj; subst hj; simp [Addr.add, go_sem]
          case c2 => intro u hu; simp at hu; rcases hu with rfl | rfl | rfl <;> rfl
          case c3 => have := HLen.out j (by omega); unfold maxLen; omega
          case c4 => have := HLen.out j (by omega); omega
          case c5 => have z1 := X.below.size; simp at z1 ⊢; omega
          case m1 =>
            intro v3 wz hown3 hg3 _ hat
            have X3 := X.next (u := (5, (y + k), v)) hown3 hg3
            have X5 : One3 26 w5 wz v3 (rawL c y (y + k) a (j + 1)) := by
              rw [HE.out]
              exact X3
            clear X3
            go_wp2
            go_roundw
            case rel => exact ⟨j + 1, by omega, by go_num, X5⟩
            case measure => simp [intOf]; omega
    · obtain rfl : j = n := by omega
      have jj : ¬ (j : Int) < (j : Int) := by omega
      rw [← HRn.out] at X
      have LL := lst_one X
      replace B := bthen B X.below
      replace C := C.kept X.below
      clear X Rw U T FW HLen HRn
      obtain ⟨w6, rfl⟩ : ∃ w6, w6 = wr := ⟨_, rfl⟩
      rcases (show R = [] ∨ R ≠ [] by by_cases q : R = [] <;> simp [q]) with hR | hR
      · have e12 := H12.out hR
        obtain ⟨rfl, rfl⟩ := e12
        have hLL := LL
        rw [hR] at hLL
        have RR : R.length = 0 := by rw [hR]; rfl
        rcases hLL.o with ⟨_, rfl⟩ | ⟨g, off, cap, rfl, _⟩
        all_goals
          clear LL hLL
          go_wp2
          refine wp_loop_rounds 1 ?_
          rw [rounds_succ]
          go_wp2
          refine bodyPost_ret (v := .tuple #[.slice none 0 0, .int .i64 12]) (by simp [results, Tryz.results27, go_sem, *]) rfl ⟨_, rfl, ⟨.inl ⟨rfl, rfl⟩⟩, B⟩
      · have R0 : 0 < R.length := by cases R with
          | nil => exact absurd rfl hR
          | cons => simp
        have HR := Lib.hid hR
        clear hR
        rcases LL.o with ⟨q, _⟩ | ⟨g, off, cap, rfl, UA⟩
        · exact absurd q HR.out
        clear LL
        obtain ⟨N, hN⟩ : ∃ N, R.length = N := ⟨_, rfl⟩
        have HN := Lib.hid hN
        rw [hN] at R0 R60 ⊢
        clear hN
        go_wp2
        go_loopw [112] (fun J wr => ∃ j : Nat, j ≤ N ∧ J = .int .i64 (j : Int) ∧ Hid (∀ (q : Nat) (u : U3), q < j → R[q]? = some u → Served c u.2.1) ∧ Below w6.heap.size w6 wr) (fun J _ => N - (intOf J).toNat)
        case atStart => exact ⟨0, by omega, rfl, Lib.hid (fun q u h => absurd h (by omega)), Below.refl _ _⟩
        case round =>
          obtain ⟨j, jN, rfl, hs, B2⟩ := hrel
          have B3 := bthen B B2
          have UA2 := UA.kept B2
          have C2 := C.kept B2
          by_cases lt : j < N
          · obtain ⟨⟨u1, u2, u3⟩, hu⟩ : ∃ u, R[j]? = some u := ⟨_, List.getElem?_eq_getElem (by rw [HN.out]; exact lt)⟩
            obtain ⟨e0, e1, e2⟩ := UA2.c j _ hu
            simp only at e0 e1 e2
            have OO := HV.out j _ hu
            simp only at OO
            have HU := Lib.hid hu
            clear hu
            have jj : (j : Int) < (N : Int) := by omega
            have Z := Bx.Tri.new wr (.int .i64 u1) (.int .i64 u2) (.int .i64 u3) 26
            obtain ⟨_, c0, c1, c2, c3, c4, c5, c6, c7, c8, c9, c10, c11, c12, c13⟩ := id C2
            go_upto_region 27 with fail
            clear e0 e1 e2
            clear c0 c1 c2 c3 c4 c5 c6 c7 c8 c9 c10 c11 c12 c13 
            replace C2 := C2.alloc (.cells #[.int .i64 u1, .int .i64 u2, .int .i64 u3] 26)
            have B4 := balloc B2 (.cells #[.int .i64 u1, .int .i64 u2, .int .i64 u3] 26)
            have B5 := balloc B3 (.cells #[.int .i64 u1, .int .i64 u2, .int .i64 u3] 26)
            generalize wr.alloc (.cells #[.int .i64 u1, .int .i64 u2, .int .i64 u3] 26) = W9 at *
            obtain ⟨_, c0, c1, c2, c3, c4, c5, c6, c7, c8, c9, c10, c11, c12, c13⟩ := id C2
            obtain ⟨_, z0, z1, z2, fz0, fz1, fz2⟩ := id Z
            rcases OO with ⟨sv, cs⟩ | ⟨e11, hl, cs⟩
            · go_wp2_with fail
              refine (cs _).mono ?_
              rintro e w9 ⟨rfl, hb⟩
              replace B4 := bthen B4 hb
              clear z0 z1 z2 fz0 fz1 fz2 hb
              clear c0 c1 c2 c3 c4 c5 c6 c7 c8 c9 c10 c11 c12 c13 
              go_wp2
              go_roundw
              case rel =>
                exact ⟨j + 1, by omega, by go_num, Lib.hid (fun q u h1 h2 => by
                  by_cases qj : q = j
                  · subst qj
                    rw [HU.out] at h2
                    cases h2
                    exact sv
                  · exact hs.out q u (by omega) h2), B4⟩
              case measure => simp [intOf]; omega
            · subst e11 hl
              go_wp2_with fail
              refine (cs _).mono ?_
              rintro e w9 ⟨rfl, hb⟩
              replace B5 := bthen B5 hb
              clear z0 z1 z2 fz0 fz1 fz2 hb
              clear c0 c1 c2 c3 c4 c5 c6 c7 c8 c9 c10 c11 c12 c13 
              go_wp2
              refine bodyPost_ret (v := .tuple #[.slice none 0 0, .int .i64 11]) (by simp [results, Tryz.results27, go_sem, *]) rfl ⟨_, rfl, ⟨.inl ⟨rfl, rfl⟩⟩, B5⟩
          · obtain rfl : j = N := by omega
            have jj : ¬ (j : Int) < (j : Int) := by omega
            have nz : ((j : Int) == 0) = false := beq_eq_false_iff_ne.2 (by omega)
            have nz2 : ¬ j = 0 := by omega
            obtain ⟨rfl, hlR⟩ := H0.out HR.out (fun q u h => hs.out q u (by have := (List.getElem?_eq_some_iff.1 h).1; have := HN.out; omega) h)
            have Q : ULst wr (.slice (some ⟨g, off, none⟩) j cap) l := ⟨.inr ⟨g, off, cap, by rw [hlR, HN.out], by rw [hlR]; exact UA2⟩⟩
            have HQ := Lib.hid Q
            clear Q hlR UA UA2
            go_wp2
            refine bodyPost_ret (v := .tuple #[.slice (some ⟨g, off, none⟩) j cap, .int .i64 0]) (by simp [results, Tryz.results27, go_sem, *]) rfl ⟨_, rfl, HQ.out, B3⟩

theorem rTw_any (c : CalZ) (L y i k er : Int) (l : List U3) (w : World) (R : TwA c L y i k l er) (K : ChkSays c) (hm : c.nm.size ≤ maxLen) (T : FTab w) :
    Calls Tryz.prog 27 #[.agg #[.string c.nm, .int .i64 c.k, .int .i64 c.d, .int .i64 c.m, .int .i64 c.s, .int .i64 c.sh, .int .i64 c.p0, .int .i64 c.p1, .int .i64 c.p2, .int .i64 c.cy, .int .i64 c.ex, .int .i64 c.fi, .int .i64 c.la, .int .i64 c.po], .agg #[.int .i64 L, .int .i64 y, .int .i64 i], .int .i64 k] w (LstTo w l er) := by
  rcases R with ⟨u, st, o, wf, q⟩ | ⟨u, ns, hl, he⟩ | ⟨no, ck, hl⟩
  · by_cases k6 : c.k = 6
    · have key : ∃ R, R.length ≤ 60 ∧ RawTo c R l er ∧ ∀ w, FTab w → Calls Tryz.prog 68 #[.agg #[.string c.nm, .int .i64 c.k, .int .i64 c.d, .int .i64 c.m, .int .i64 c.s, .int .i64 c.sh, .int .i64 c.p0, .int .i64 c.p1, .int .i64 c.p2, .int .i64 c.cy, .int .i64 c.ex, .int .i64 c.fi, .int .i64 c.la, .int .i64 c.po], .agg #[.int .i64 L, .int .i64 y, .int .i64 i], .int .i64 (y + k)] w fun e w' => ∃ v, e = .returned v ∧ ULst w' v R ∧ Below w.heap.size w w' := by
        have tt := served_told u.1 st
        have ub := ucount_bd (L := 5) (y := y + k) u.1.1 (by omega) (by omega)
        rcases wf with ⟨h, _⟩ | ⟨_, hL, a, b, W, ho⟩ | ⟨_, hL, p, a, b, a', b', hp, W, W', ai, ho⟩
        · exact absurd k6 h
        · have um := month_unit k6 u hL st
          have r := wkof_is um W
          obtain ⟨n, hn⟩ : ∃ n : Nat, (n : Int) = b - a + 1 := ⟨(b - a + 1).toNat, by omega⟩
          rw [show (b - a + 1).toNat = n by omega] at ho
          refine ⟨wkL (y + k) a n, by rw [wkL_len]; omega, rawto_of (o := o) (.inl ⟨ho, fun j v hv => ?_⟩) q, fun w T => (rmonths_a c L y i (y + k) a b n w hL um W hn K hm T).mono (fun e w' h => ?_)⟩
          · have jl := (List.getElem?_eq_some_iff.1 hv).1
            rw [wkL_len] at jl
            rw [wkL_at (y + k) a n j jl] at hv
            cases hv
            exact st
          · obtain ⟨g, cap, he, R, _, hb, _⟩ := h
            exact ⟨_, he, ⟨.inr ⟨g, 0, cap, rfl, uat_row R⟩⟩, hb⟩
        · subst hL
          have up : UnitOk c 4 y p := ⟨u.1, ⟨by omega, by omega⟩, u.2.2.1, hp.1, hp.2.1⟩
          have r := wkof_is up W
          have r' := wkof_is (month_unit k6 up (by decide) st) W'
          obtain ⟨n, hn⟩ : ∃ n : Nat, (n : Int) = b - a + 1 := ⟨(b - a + 1).toNat, by omega⟩
          obtain ⟨n', hn'⟩ : ∃ n' : Nat, (n' : Int) = b' - a' + 1 := ⟨(b' - a' + 1).toNat, by omega⟩
          refine ⟨if i - a ≤ b' - a' then [(5, y + k, a' + (i - a))] else [], by split <;> simp, rawto_of (o := o) (.inl ⟨ho, fun j v hv => ?_⟩) q, fun w T => rmonths_b c y i (y + k) p a b a' b' n n' w u hp k6 W hn W' hn' ai st K hm T⟩
          split at hv
          · cases j with
            | zero => simp at hv; subst hv; exact st
            | succ j => simp at hv
          · simp at hv
      obtain ⟨R, h1, h2, h3⟩ := key
      exact rtw_months c L y i k er l R w k6 u st h2 h1 h3 K hm T
    · obtain ⟨a, b, n, W, hn, a0, ab, bn, RT⟩ := raw_weeks k6 u st wf q
      have ty := served_told u.1 u.2.2.1
      have nb := (nweeks_01 u.1.1 k6 (y := y) (by omega) (by omega)).1
      exact rtw_weeks c L y i k a b er n l _ w k6 u st W hn a0 ab bn rfl RT (by have := rawL_len c y (y + k) a n; omega) K hm T
  · exact rtw_out c L y i k er l w u ns hl he K hm T
  · exact rtw_no c L y i k er l w no ck hl K hm T

end Go.Proofs.YtkfogmaogfgcgaaGreatDoor.Br

namespace Go.Proofs.YtkfogmaogfgcgaaGreatDoor.Br
set_option linter.unusedSimpArgs false
set_option linter.unusedVariables false
open Go.RowKit Go.Maps Bn Bx Cp Am Fp Ap Ar Cm Em Ep Rk Hp Hr Ip Ir Rf Mr Br Bp

set_option maxHeartbeats 8000000

def prun (c : CalZ) (l : List U3) (j : Nat) : List (Int × Int) := runs ((l.take j).map (spanOf c))
theorem prun_zero (c : CalZ) (l : List U3) : prun c l 0 = [] := by simp [prun, runs]
theorem prun_step {c : CalZ} {l : List U3} {j : Nat} {u : U3} (h : l[j]? = some u) : prun c l (j + 1) = mstep (prun c l j) (spanOf c u) := by
  unfold prun
  rw [List.take_add_one, h, ← runs_snoc]
  simp
theorem prun_all (c : CalZ) (l : List U3) : prun c l l.length = runs (l.map (spanOf c)) := by simp [prun]
theorem prun_bd {c : CalZ} {l : List U3} (hu : ∀ (j : Nat) (u : U3), l[j]? = some u → 0 ≤ (spanOf c u).2 ∧ (spanOf c u).2 ≤ 3068036) (j : Nat) (hj : j ≤ l.length) : (prun c l j).length ≤ j ∧ ∀ x, x ∈ prun c l j → 0 ≤ x.2 ∧ x.2 ≤ 3068036 := by
  induction j with
  | zero => rw [prun_zero]; exact ⟨by simp, fun x h => by simp at h⟩
  | succ j ih =>
    have ih := ih (by omega)
    obtain ⟨u, h⟩ : ∃ u, l[j]? = some u := ⟨_, List.getElem?_eq_getElem (by omega)⟩
    rw [prun_step h]
    have a := mstep_len (prun c l j) (spanOf c u)
    exact ⟨by omega, mstep_mem (P := fun x => 0 ≤ x.2 ∧ x.2 ≤ 3068036) ih.2 (hu j u h) (fun x _ => hu j u h)⟩
theorem span_bd {c : CalZ} {u : U3} (h : UnitOk c 5 u.2.1 u.2.2) : 0 ≤ (spanOf c u).1 ∧ (spanOf c u).1 ≤ 3068037 ∧ 0 ≤ (spanOf c u).2 ∧ (spanOf c u).2 ≤ 3068036 := by
  obtain ⟨ok, l5, s, i0, i1⟩ := h
  have st := served_told ok s
  have b0 := uend_bd (y := u.2.1) (i := u.2.2 - 1) ok.1 (by omega) (by omega) l5 (by omega) (by omega)
  have b1 := uend_bd (y := u.2.1) (i := u.2.2) ok.1 (by omega) (by omega) l5 (by omega) i1
  simp only [spanOf]
  omega
theorem ones_form {EL : TypeId} {w W : World} {v : Value} {m : Nat} {l : List (Int × Int)} (X : OneS EL w W v m l) : ∃ ptr cap, v = .slice ptr m cap := by
  rcases X.a.2 with ⟨h, h0⟩ | ⟨g, cap, cur, hv, _⟩
  · exact ⟨none, 0, by rw [h, h0]⟩
  · exact ⟨_, _, hv⟩
structure SLst (W : World) (v : Value) (l : List (Int × Int)) : Prop where
  o : (l = [] ∧ v = .slice none 0 0) ∨ ∃ g cap : Nat, v = .slice (some ⟨g, 0, none⟩) l.length cap ∧ Srow W g l
theorem SLst.kept {W w1 : World} {v : Value} {l : List (Int × Int)} (p : SLst W v l) (hb : Below W.heap.size W w1) : SLst w1 v l :=
  ⟨p.o.elim .inl (fun ⟨g, cap, e, R⟩ => .inr ⟨g, cap, e, R.kept hb⟩)⟩
theorem SLst.alloc {W : World} {v : Value} {l : List (Int × Int)} (p : SLst W v l) (o : Obj) : SLst (W.alloc o) v l := p.kept ((Below.refl _ _).alloc (Nat.le_refl _) o)
theorem sls_one {EL : TypeId} {w W : World} {v : Value} {r : List (Int × Int)} (X : OneS EL w W v r.length r) : SLst W v r := by
  rcases X.a.2 with ⟨h, h0⟩ | ⟨g1, cap1, cur, hv, hb1, hg1, _⟩
  · exact ⟨.inl ⟨List.length_eq_zero_iff.1 h0, h⟩⟩
  · by_cases q : 0 < r.length
    · obtain ⟨g2, cap2, rfl, QQ, _⟩ := X.out rfl q
      exact ⟨.inr ⟨g2, cap2, rfl, QQ⟩⟩
    · have r0 : r = [] := List.length_eq_zero_iff.1 (by omega)
      subst r0
      exact ⟨.inr ⟨g1, cap1, hv, (Array.getElem?_eq_some_iff.1 hg1).1, fun i s h => by simp at h⟩⟩
def SpsTo (w : World) (l : List (Int × Int)) (er : Int) (e : Ending) (w' : World) : Prop :=
  ∃ v, e = .returned (.tuple #[v, .int .i64 er]) ∧ SLst w' v l ∧ Below w.heap.size w w'
theorem sps_out {w w' : World} {l : List (Int × Int)} {e : Ending} (h : SpansOut w l e w') : SpsTo w l 0 e w' := by
  obtain ⟨g, cap, he, R, _, hb, _⟩ := h
  exact ⟨_, he, ⟨.inr ⟨g, cap, rfl, R⟩⟩, hb⟩
theorem sps_none {w w' : World} {er : Int} {e : Ending} (h : e = .returned (.tuple #[.slice none 0 0, .int .i64 er]) ∧ Below w.heap.size w w') : SpsTo w [] er e w' :=
  ⟨_, h.1, ⟨.inl ⟨rfl, rfl⟩⟩, h.2⟩

set_option maxRecDepth 100000 in
theorem rRuns_er (c : CalZ) (L y i k er : Int) (l : List U3) (w : World) (R : TwA c L y i k l er) (ne : er ≠ 0) (K : ChkSays c) (hm : c.nm.size ≤ maxLen) (T : FTab w) :
    Calls Tryz.prog 29 #[.agg #[.string c.nm, .int .i64 c.k, .int .i64 c.d, .int .i64 c.m, .int .i64 c.s, .int .i64 c.sh, .int .i64 c.p0, .int .i64 c.p1, .int .i64 c.p2, .int .i64 c.cy, .int .i64 c.ex, .int .i64 c.fi, .int .i64 c.la, .int .i64 c.po], .agg #[.int .i64 L, .int .i64 y, .int .i64 i], .int .i64 k] w fun e w' => e = .returned (.tuple #[.slice none 0 0, .int .i64 er]) ∧ Below w.heap.size w w' := by
  have C := CalIn.new w c 24
  have B := balloc (Below.refl _ w) (.cells #[.string c.nm, .int .i64 c.k, .int .i64 c.d, .int .i64 c.m, .int .i64 c.s, .int .i64 c.sh, .int .i64 c.p0, .int .i64 c.p1, .int .i64 c.p2, .int .i64 c.cy, .int .i64 c.ex, .int .i64 c.fi, .int .i64 c.la, .int .i64 c.po] 24)
  replace T := T.alloc (.cells #[.string c.nm, .int .i64 c.k, .int .i64 c.d, .int .i64 c.m, .int .i64 c.s, .int .i64 c.sh, .int .i64 c.p0, .int .i64 c.p1, .int .i64 c.p2, .int .i64 c.cy, .int .i64 c.ex, .int .i64 c.fi, .int .i64 c.la, .int .i64 c.po] 24)
  have U := Bx.Tri.new (w.alloc (.cells #[.string c.nm, .int .i64 c.k, .int .i64 c.d, .int .i64 c.m, .int .i64 c.s, .int .i64 c.sh, .int .i64 c.p0, .int .i64 c.p1, .int .i64 c.p2, .int .i64 c.cy, .int .i64 c.ex, .int .i64 c.fi, .int .i64 c.la, .int .i64 c.po] 24)) (.int .i64 L) (.int .i64 y) (.int .i64 i) 26
  rw [World.size_alloc] at U
  replace C := C.alloc (.cells #[.int .i64 L, .int .i64 y, .int .i64 i] 26)
  replace B := balloc B (.cells #[.int .i64 L, .int .i64 y, .int .i64 i] 26)
  replace T := T.alloc (.cells #[.int .i64 L, .int .i64 y, .int .i64 i] 26)
  have cw := fun w T => rTw_any c L y i k er l w R K hm T
  have n1 : (er != 0) = true := bne_iff_ne.2 ne
  clear R ne K
  go_enter Tryz.func29, Tryz.ntmps29
  go_upto_region 1 with fail
  generalize (w.alloc (.cells #[.string c.nm, .int .i64 c.k, .int .i64 c.d, .int .i64 c.m, .int .i64 c.s, .int .i64 c.sh, .int .i64 c.p0, .int .i64 c.p1, .int .i64 c.p2, .int .i64 c.cy, .int .i64 c.ex, .int .i64 c.fi, .int .i64 c.la, .int .i64 c.po] 24)).alloc (.cells #[.int .i64 L, .int .i64 y, .int .i64 i] 26) = W0 at *
  obtain ⟨_, c0, c1, c2, c3, c4, c5, c6, c7, c8, c9, c10, c11, c12, c13⟩ := id C
  obtain ⟨_, u0, u1, u2, fu0, fu1, fu2⟩ := id U
  go_wp2_with fail
  refine (cw _ T).mono ?_
  rintro e w1 ⟨vv, rfl, LL, hb⟩
  replace C := C.kept hb
  replace B := bthen B hb
  replace T := T.kept hb
  replace U := U.kept hb
  clear hb c0 c1 c2 c3 c4 c5 c6 c7 c8 c9 c10 c11 c12 c13 u0 u1 u2 fu0 fu1 fu2
  obtain ⟨_, c0, c1, c2, c3, c4, c5, c6, c7, c8, c9, c10, c11, c12, c13⟩ := id C
  obtain ⟨_, u0, u1, u2, fu0, fu1, fu2⟩ := id U
  go_wp2
  go_ret2
  exact ⟨by simp, B⟩

set_option maxRecDepth 100000 in
theorem rRuns_ok (c : CalZ) (L y i k : Int) (l : List U3) (r : List (Int × Int)) (w : World) (R : TwA c L y i k l 0) (XL : TwList c l r) (K : ChkSays c) (hm : c.nm.size ≤ maxLen) (T : FTab w) :
    Calls Tryz.prog 29 #[.agg #[.string c.nm, .int .i64 c.k, .int .i64 c.d, .int .i64 c.m, .int .i64 c.s, .int .i64 c.sh, .int .i64 c.p0, .int .i64 c.p1, .int .i64 c.p2, .int .i64 c.cy, .int .i64 c.ex, .int .i64 c.fi, .int .i64 c.la, .int .i64 c.po], .agg #[.int .i64 L, .int .i64 y, .int .i64 i], .int .i64 k] w (SpsTo w r 0) := by
  obtain ⟨j0, hi, hz0, hz1, hz2⟩ := info_parts infoS
  have C := CalIn.new w c 24
  have B := balloc (Below.refl _ w) (.cells #[.string c.nm, .int .i64 c.k, .int .i64 c.d, .int .i64 c.m, .int .i64 c.s, .int .i64 c.sh, .int .i64 c.p0, .int .i64 c.p1, .int .i64 c.p2, .int .i64 c.cy, .int .i64 c.ex, .int .i64 c.fi, .int .i64 c.la, .int .i64 c.po] 24)
  replace T := T.alloc (.cells #[.string c.nm, .int .i64 c.k, .int .i64 c.d, .int .i64 c.m, .int .i64 c.s, .int .i64 c.sh, .int .i64 c.p0, .int .i64 c.p1, .int .i64 c.p2, .int .i64 c.cy, .int .i64 c.ex, .int .i64 c.fi, .int .i64 c.la, .int .i64 c.po] 24)
  have U := Bx.Tri.new (w.alloc (.cells #[.string c.nm, .int .i64 c.k, .int .i64 c.d, .int .i64 c.m, .int .i64 c.s, .int .i64 c.sh, .int .i64 c.p0, .int .i64 c.p1, .int .i64 c.p2, .int .i64 c.cy, .int .i64 c.ex, .int .i64 c.fi, .int .i64 c.la, .int .i64 c.po] 24)) (.int .i64 L) (.int .i64 y) (.int .i64 i) 26
  rw [World.size_alloc] at U
  replace C := C.alloc (.cells #[.int .i64 L, .int .i64 y, .int .i64 i] 26)
  replace B := balloc B (.cells #[.int .i64 L, .int .i64 y, .int .i64 i] 26)
  replace T := T.alloc (.cells #[.int .i64 L, .int .i64 y, .int .i64 i] 26)
  have cw := fun w T => rTw_any c L y i k 0 l w R K hm T
  have HS : Hid (∀ (j : Nat) (u : U3), l[j]? = some u → ∃ s1 s2 : Int, spanOf c u = (s1, s2) ∧ 0 ≤ s1 ∧ s1 ≤ 3068037 ∧ 0 ≤ s2 ∧ s2 ≤ 3068036 ∧ ∀ w, FTab w → Calls Tryz.prog 62 #[.agg #[.string c.nm, .int .i64 c.k, .int .i64 c.d, .int .i64 c.m, .int .i64 c.s, .int .i64 c.sh, .int .i64 c.p0, .int .i64 c.p1, .int .i64 c.p2, .int .i64 c.cy, .int .i64 c.ex, .int .i64 c.fi, .int .i64 c.la, .int .i64 c.po], .agg #[.int .i64 u.1, .int .i64 u.2.1, .int .i64 u.2.2]] w fun e w' => e = .returned (.tuple #[.agg #[.int .i64 s1, .int .i64 s2], .int .i64 0]) ∧ Below w.heap.size w w') :=
    Lib.hid (fun j u hu => by
      obtain ⟨h5, uo⟩ := XL.u j u hu
      have sb := span_bd uo
      exact ⟨_, _, rfl, sb.1, sb.2.1, sb.2.2.1, sb.2.2.2, fun w T => by rw [h5]; exact rSpan_any c 5 u.2.1 u.2.2 _ _ 0 w (.inl ⟨uo, rfl, rfl, rfl⟩) K hm T⟩)
  have HB : Hid (∀ j : Nat, j ≤ l.length → (prun c l j).length ≤ j ∧ ∀ x, x ∈ prun c l j → 0 ≤ x.2 ∧ x.2 ≤ 3068036) :=
    Lib.hid (fun j hj => prun_bd (fun j u hu => by have := span_bd (XL.u j u hu).2; exact ⟨this.2.2.1, this.2.2.2⟩) j hj)
  have HT : Hid (∀ (j : Nat) (u : U3), l[j]? = some u → prun c l (j + 1) = mstep (prun c l j) (spanOf c u)) := Lib.hid (fun j u hu => prun_step hu)
  have HE : Hid (prun c l l.length = r) := Lib.hid (by rw [prun_all]; exact XL.eq.symm)
  have H0 := Lib.hid (prun_zero c l)
  have l0 := XL.l0
  have l1 := XL.l1
  clear R XL K
  go_enter Tryz.func29, Tryz.ntmps29
  go_upto_region 1 with fail
  generalize (w.alloc (.cells #[.string c.nm, .int .i64 c.k, .int .i64 c.d, .int .i64 c.m, .int .i64 c.s, .int .i64 c.sh, .int .i64 c.p0, .int .i64 c.p1, .int .i64 c.p2, .int .i64 c.cy, .int .i64 c.ex, .int .i64 c.fi, .int .i64 c.la, .int .i64 c.po] 24)).alloc (.cells #[.int .i64 L, .int .i64 y, .int .i64 i] 26) = W0 at *
  obtain ⟨_, c0, c1, c2, c3, c4, c5, c6, c7, c8, c9, c10, c11, c12, c13⟩ := id C
  obtain ⟨_, u0, u1, u2, fu0, fu1, fu2⟩ := id U
  go_wp2_with fail
  refine (cw _ T).mono ?_
  rintro e w1 ⟨vv, rfl, LL, hb⟩
  replace C := C.kept hb
  replace B := bthen B hb
  replace T := T.kept hb
  replace U := U.kept hb
  clear hb c0 c1 c2 c3 c4 c5 c6 c7 c8 c9 c10 c11 c12 c13 u0 u1 u2 fu0 fu1 fu2
  obtain ⟨_, c0, c1, c2, c3, c4, c5, c6, c7, c8, c9, c10, c11, c12, c13⟩ := id C
  obtain ⟨_, u0, u1, u2, fu0, fu1, fu2⟩ := id U
  clear cw u0 u1 u2 fu0 fu1 fu2 U
  clear c0 c1 c2 c3 c4 c5 c6 c7 c8 c9 c10 c11 c12 c13 
  rcases LL.o with ⟨q, _⟩ | ⟨g, off, cap, rfl, UA⟩
  · exact absurd l0 (by rw [q]; simp)
  clear LL
  obtain ⟨N, hN⟩ : ∃ N, l.length = N := ⟨_, rfl⟩
  have HN := Lib.hid hN
  rw [hN] at l0 l1 HB HE ⊢
  clear hN
  go_wp2
  go_loopw [10, 27] (fun S J wr => ∃ j : Nat, j ≤ N ∧ J = .int .i64 (j : Int) ∧ OneS 34 w1 wr S (prun c l j).length (prun c l j)) (fun _ J _ => N - (intOf J).toNat)
  case atStart => exact ⟨0, by omega, rfl, by rw [H0.out]; exact OneS.start _ (Below.refl _ _)⟩
  case round =>
    obtain ⟨j, jN, rfl, X⟩ := hrel
    by_cases lt : j < N
    · obtain ⟨⟨v1, v2, v3⟩, hu⟩ : ∃ u, l[j]? = some u := ⟨_, List.getElem?_eq_getElem (by rw [HN.out]; exact lt)⟩
      obtain ⟨e0, e1, e2⟩ := (UA.kept X.below).c j _ hu
      simp only at e0 e1 e2
      obtain ⟨s1, s2, hs, s10, s11, s20, s21, cs⟩ := HS.out j _ hu
      simp only at cs
      have st := HT.out j _ hu
      rw [hs] at st
      have HU := Lib.hid st
      clear hu hs st
      have bd := HB.out j (by omega)
      have C2 := C.kept X.below
      have T2 := T.kept X.below
      have jj : (j : Int) < (N : Int) := by omega
      have Z := Bx.Tri.new wr (.int .i64 v1) (.int .i64 v2) (.int .i64 v3) 26
      obtain ⟨_, c0, c1, c2, c3, c4, c5, c6, c7, c8, c9, c10, c11, c12, c13⟩ := id C2
      go_upto_region 8 with fail
      clear e0 e1 e2
      clear c0 c1 c2 c3 c4 c5 c6 c7 c8 c9 c10 c11 c12 c13 
      replace C2 := C2.alloc (.cells #[.int .i64 v1, .int .i64 v2, .int .i64 v3] 26)
      replace T2 := T2.alloc (.cells #[.int .i64 v1, .int .i64 v2, .int .i64 v3] 26)
      replace X := X.kept (balloc (Below.refl _ _) (.cells #[.int .i64 v1, .int .i64 v2, .int .i64 v3] 26))
      generalize wr.alloc (.cells #[.int .i64 v1, .int .i64 v2, .int .i64 v3] 26) = W9 at *
      obtain ⟨_, c0, c1, c2, c3, c4, c5, c6, c7, c8, c9, c10, c11, c12, c13⟩ := id C2
      obtain ⟨_, z0, z1, z2, fz0, fz1, fz2⟩ := id Z
      go_wp2_with fail
      refine (cs _ T2).mono ?_
      rintro e w9 ⟨rfl, hb⟩
      replace X := X.kept hb
      clear z0 z1 z2 fz0 fz1 fz2 hb cs C2 T2 Z
      clear c0 c1 c2 c3 c4 c5 c6 c7 c8 c9 c10 c11 c12 c13 
      have Kb := Pr.Two.new w9 (.int .i64 s1) (.int .i64 s2) 34
      go_upto_region 9 with fail
      replace X := X.kept (balloc (Below.refl _ _) (.cells #[.int .i64 s1, .int .i64 s2] 34))
      generalize w9.alloc (.cells #[.int .i64 s1, .int .i64 s2] 34) = W10 at *
      obtain ⟨_, k0, k1, fk0, fk1⟩ := id Kb
      obtain ⟨bd0, bd1⟩ := bd
      rcases snoc_cases (prun c l j) with hp | ⟨p, ⟨x1, x2⟩, hp⟩
      · rw [hp] at X
        have HJ : Hid (prun c l (j + 1) = [] ++ [(s1, s2)]) := Lib.hid (by rw [HU.out, hp]; rfl)
        clear hp bd0 bd1
        obtain ⟨ptr, cap', rfl⟩ := ones_form X
        have n0 : decide ((0 : Int) < 0) = false := by decide
        go_quiet (fail)
        have X2 := fun n => X.kept (bdrewN (Below.refl _ W10) n)
        go_wp2_with (first
          | (at_builtin; refine wpList_append_own_at _ rfl _ _ 46 rfl w1.heap.size 34 j0 (.agg #[.int .i64 0, .int .i64 0]) 2 16 underS hi hz0 hz1 hz2 rfl (by decide) _ 0 (scells ([] : List (Int × Int))) rfl ((X2 _).a.alloc _) ⟨(W10.drewN nq).heap.size, 0, none⟩ 1 1 [.int .i64 s1, .int .i64 s2] rfl rfl ?c1 ?c2 ?c3 ?c4 ?c5 ?m1))
        case c1 =>
          intro j u hj
          match j, hj with
          | 0, hj => simp at hj; subst hj; exact (Pr.Two.new (W10.drewN nq) (.int .i64 s1) (.int .i64 s2) 34).c0
          | 1, hj => simp at hj; subst hj; exact (Pr.Two.new (W10.drewN nq) (.int .i64 s1) (.int .i64 s2) 34).c1
        case c2 => intro u hu; simp at hu; rcases hu with rfl | rfl <;> rfl
        case c3 => unfold maxLen; omega
        case c4 => omega
        case c5 => have z1 := (X2 0).below.size; simp at z1 ⊢; omega
        case m1 =>
          intro v3 wz hown3 hg3 _ hat
          have X3 := (X2 _).next (f := s1) (t := s2) hown3 hg3
          have X5 : OneS 34 w1 wz v3 (prun c l (j + 1)).length (prun c l (j + 1)) := by
            rw [HJ.out, show (([] : List (Int × Int)) ++ [(s1, s2)]).length = 0 + 1 by simp]
            exact X3
          clear X3
          go_wp2
          go_roundw
          case rel => exact ⟨j + 1, by omega, by go_num, X5⟩
          case measure => simp [intOf]; omega
      · rw [hp] at X bd0 bd1
        have pl : (p ++ [(x1, x2)]).length = p.length + 1 := by simp
        rw [pl] at X bd0
        have xb := bd1 (x1, x2) (by simp)
        simp only at xb
        obtain ⟨gr, cap', rfl, _, _⟩ := X.a.form (by omega)
        have xc := (scells_at (l := p ++ [(x1, x2)]) (i := p.length) (s := (x1, x2)) (by simp))
        have cx : W10.cell? ⟨gr, p.length * 2 + 1, none⟩ = some (.int .i64 x2) := by rw [X.a.cellAt (p.length * 2 + 1) (by omega)]; exact xc.2
        have fx : W10.frozen? ⟨gr, p.length * 2 + 1, none⟩ = false := X.a.frozenAt _
        have np : IntKind.i64.wrap ((p.length : Int) + 1 - 1) = (p.length : Int) := by rw [show (p.length : Int) + 1 - 1 = p.length by omega]; exact IntWalk.i64_in _ (by omega)
        have np2 : IntKind.i64.wrap (p.length : Int) = (p.length : Int) := IntWalk.i64_in _ (by omega)
        have nx : IntKind.i64.wrap (x2 + 1) = x2 + 1 := IntWalk.i64_in _ (by omega)
        have n0 : (0 : Int) ≤ p.length := by omega
        have n1 : (p.length : Int) < (p.length : Int) + 1 := by omega
        have n2 : (0 : Int) < (p.length : Int) + 1 := by omega
        clear bd1 xc
        by_cases hj : x2 + 1 = s1
        · have HJ : Hid (prun c l (j + 1) = p ++ [(x1, s2)]) := Lib.hid (by rw [HU.out, hp]; exact mstep_join hj)
          have dj : (x2 + 1 == s1) = true := beq_iff_eq.2 hj
          clear hj hp
          go_quiet (fail)
          have X2 := fun n => X.kept (bdrewN (Below.refl _ W10) n)
          have gb := (row_lt (X2 0).a (x := gr) rfl).1
          go_wp2
          go_roundw
          case rel =>
            refine ⟨j + 1, by omega, by go_num, ?_⟩
            rw [HJ.out, show (p ++ [(x1, s2)]).length = p.length + 1 by simp]
            exact ⟨bset (X2 _).below gb _ _, by rw [← scells_set p x1 x2 s2]; exact own_set _ (X2 _).a⟩
          case measure => simp [intOf]; omega
        · have HJ : Hid (prun c l (j + 1) = p ++ [(x1, x2)] ++ [(s1, s2)]) := Lib.hid (by rw [HU.out, hp]; exact mstep_new hj)
          have dj : (x2 + 1 == s1) = false := beq_eq_false_iff_ne.2 hj
          clear hj hp
          go_quiet (fail)
          have X2 := fun n => X.kept (bdrewN (Below.refl _ W10) n)
          go_wp2_with (first
            | (at_builtin; refine wpList_append_own_at _ rfl _ _ 46 rfl w1.heap.size 34 j0 (.agg #[.int .i64 0, .int .i64 0]) 2 16 underS hi hz0 hz1 hz2 rfl (by decide) _ (p.length + 1) (scells (p ++ [(x1, x2)])) rfl ((X2 _).a.alloc _) ⟨(W10.drewN nq).heap.size, 0, none⟩ 1 1 [.int .i64 s1, .int .i64 s2] rfl rfl ?c1 ?c2 ?c3 ?c4 ?c5 ?m1))
          case c1 =>
            intro j u hj
            match j, hj with
            | 0, hj => simp at hj; subst hj; exact (Pr.Two.new (W10.drewN nq) (.int .i64 s1) (.int .i64 s2) 34).c0
            | 1, hj => simp at hj; subst hj; exact (Pr.Two.new (W10.drewN nq) (.int .i64 s1) (.int .i64 s2) 34).c1
          case c2 => intro u hu; simp at hu; rcases hu with rfl | rfl <;> rfl
          case c3 => unfold maxLen; omega
          case c4 => omega
          case c5 => have z1 := (X2 0).below.size; simp at z1 ⊢; omega
          case m1 =>
            intro v3 wz hown3 hg3 _ hat
            have X3 := (X2 _).next (f := s1) (t := s2) hown3 hg3
            have X5 : OneS 34 w1 wz v3 (prun c l (j + 1)).length (prun c l (j + 1)) := by
              rw [HJ.out, show ((p ++ [(x1, x2)]) ++ [(s1, s2)]).length = (p.length + 1) + 1 by simp]
              exact X3
            clear X3
            go_wp2
            go_roundw
            case rel => exact ⟨j + 1, by omega, by go_num, X5⟩
            case measure => simp [intOf]; omega
    · obtain rfl : j = N := by omega
      have jj : ¬ (j : Int) < (j : Int) := by omega
      rw [HE.out] at X
      have Bz := bthen B X.below
      have Q := sls_one X
      have HQ := Lib.hid Q
      clear X Q
      go_wp2
      go_ret2
      exact ⟨_, by simp, HQ.out, Bz⟩

theorem rspan_neq (a b a' b' : Int) (w : World) :
    (binOp .neq 34 (.agg #[.int .i64 a, .int .i64 b]) (.agg #[.int .i64 a', .int .i64 b'])).run Tryz.prog w = .ok (.bool (!decide (a = a' ∧ b = b'))) w := by
  by_cases h1 : a = a'
  · by_cases h2 : b = b'
    · subst h1 h2; simp [go_sem]
    · simp [go_sem, h1, h2]
  · simp [go_sem, h1]

set_option maxRecDepth 100000 in
theorem rsame_s (g1 g2 N c1 c2 : Nat) (l : List (Int × Int)) (w : World) (hN : l.length = N) (N1 : N ≤ 1000000) (R1 : Srow w g1 l) (R2 : Srow w g2 l) :
    Calls Tryz.prog 31 #[.slice (some ⟨g1, 0, none⟩) N c1, .slice (some ⟨g2, 0, none⟩) N c2] w fun e w' => e = .returned (.bool true) ∧ Below w.heap.size w w' := by
  have e0 : ((N : Int) != (N : Int)) = false := by simp
  have HN := Lib.hid hN
  clear hN
  go_enter Tryz.func31, Tryz.ntmps31
  go_wp2
  go_loopw [13] (fun Y wr => ∃ k : Nat, k ≤ N ∧ Y = .int .i64 (k : Int) ∧ Below w.heap.size w wr) (fun Y _ => N - (intOf Y).toNat)
  case atStart => exact ⟨0, by omega, rfl, Below.refl _ _⟩
  case round =>
    obtain ⟨k, kN, rfl, B2⟩ := hrel
    by_cases hlt : k < N
    · obtain ⟨⟨x, y⟩, hu⟩ : ∃ u, l[k]? = some u := ⟨_, List.getElem?_eq_getElem (by rw [HN.out]; exact hlt)⟩
      obtain ⟨r0, r1⟩ := (R1.kept B2).c k _ hu
      obtain ⟨s0, s1⟩ := (R2.kept B2).c k _ hu
      simp only at r0 r1 s0 s1
      have hq := fun w => rspan_neq x y x y w
      rw [show (!decide (x = x ∧ y = y)) = false by simp] at hq
      have kk : (k : Int) < (N : Int) := by omega
      go_upto_region 6 with fail
      go_quiet (fail)
      go_wp2
      go_roundw
      case rel => exact ⟨k + 1, by omega, by go_num, bdrewN B2 _⟩
      case measure => simp [intOf]; omega
    · obtain rfl : k = N := by omega
      have kk : decide ((k : Int) < (k : Int)) = false := decide_eq_false (by omega)
      go_wp2
      go_ret
      exact ⟨rfl, B2⟩

set_option maxRecDepth 100000 in
theorem rsame_snil (p1 p2 : Option Addr) (c1 c2 : Nat) (w : World) : Calls Tryz.prog 31 #[.slice p1 0 c1, .slice p2 0 c2] w fun e w' => e = .returned (.bool true) ∧ Below w.heap.size w w' := by
  go_enter Tryz.func31, Tryz.ntmps31
  go_wp2
  refine wp_loop_rounds 1 ?_
  rw [rounds_succ]
  go_wp2
  go_ret
  exact ⟨rfl, Below.refl _ _⟩

theorem rsames_any (l : List (Int × Int)) (a b : Value) (w : World) (N1 : l.length ≤ 1000000) (R1 : SLst w a l) (R2 : SLst w b l) :
    Calls Tryz.prog 31 #[a, b] w fun e w' => e = .returned (.bool true) ∧ Below w.heap.size w w' := by
  rcases R1.o with ⟨h1, rfl⟩ | ⟨g1, c1, rfl, q1⟩
  · rcases R2.o with ⟨_, rfl⟩ | ⟨g2, c2, rfl, q2⟩
    · exact rsame_snil _ _ _ _ _
    · subst h1; exact rsame_snil _ _ _ _ _
  · rcases R2.o with ⟨h2, rfl⟩ | ⟨g2, c2, rfl, q2⟩
    · subst h2; exact rsame_snil _ _ _ _ _
    · exact rsame_s g1 g2 l.length c1 c2 l w rfl N1 q1 q2

set_option maxRecDepth 100000 in
theorem rsameu_any (l : List U3) (a b : Value) (w : World) (N1 : l.length ≤ 1000000) (R1 : ULst w a l) (R2 : ULst w b l) :
    Calls Tryz.prog 30 #[a, b] w fun e w' => e = .returned (.bool true) ∧ Below w.heap.size w w' := by
  have cs := rsame_any l a b w N1 R1 R2
  clear R1 R2 N1
  go_enter Tryz.func30, Tryz.ntmps30
  go_wp2_with fail
  refine cs.mono ?_
  rintro e w1 ⟨rfl, hb⟩
  go_wp2
  go_ret
  exact ⟨rfl, hb⟩

end Go.Proofs.YtkfogmaogfgcgaaGreatDoor.Br

