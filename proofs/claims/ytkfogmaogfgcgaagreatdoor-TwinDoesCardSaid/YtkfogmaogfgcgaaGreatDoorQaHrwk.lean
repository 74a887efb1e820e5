/- What Weeks, Added and Same of the reference of layer 15 come to. -/
import Derived.Test.YtkfogmaogfgcgaaGreatDoorQaJX
namespace Go.Proofs.YtkfogmaogfgcgaaGreatDoor.Hr
set_option linter.unusedSimpArgs false
set_option linter.unusedVariables false
open Go.RowKit Go.Maps Bn Bx Cp Am Fp Ap Ar Cm Em Ep Rk Hp

set_option maxHeartbeats 8000000

def IntsOut2 (w : World) (n : Nat) (f : Nat → Int) (e : Ending) (w' : World) : Prop :=
  ∃ g cap : Nat, e = .returned (.tuple #[.slice (some ⟨g, 0, none⟩) n cap, .int .i64 0]) ∧ Row w' g n f ∧ w.heap.size ≤ g ∧ Below w.heap.size w w' ∧ n ≤ cap

set_option maxRecDepth 100000 in
theorem rWeeks15_no (c : CalZ) (y er : Int) (w : World) (N : NoYear c y er) (K : ChkSays c) (T : FTab w) :
    Calls Tryz.prog 155 #[.agg #[.string c.nm, .int .i64 c.k, .int .i64 c.d, .int .i64 c.m, .int .i64 c.s, .int .i64 c.sh, .int .i64 c.p0, .int .i64 c.p1, .int .i64 c.p2, .int .i64 c.cy, .int .i64 c.ex, .int .i64 c.fi, .int .i64 c.la, .int .i64 c.po], .int .i64 y] w fun e w' => e = .returned (.tuple #[.slice none 0 0, .int .i64 er]) ∧ Below w.heap.size w w' := by
  have C := CalIn.new w c 24
  have B := balloc (Below.refl _ w) (.cells #[.string c.nm, .int .i64 c.k, .int .i64 c.d, .int .i64 c.m, .int .i64 c.s, .int .i64 c.sh, .int .i64 c.p0, .int .i64 c.p1, .int .i64 c.p2, .int .i64 c.cy, .int .i64 c.ex, .int .i64 c.fi, .int .i64 c.la, .int .i64 c.po] 24)
  replace T := T.alloc (.cells #[.string c.nm, .int .i64 c.k, .int .i64 c.d, .int .i64 c.m, .int .i64 c.s, .int .i64 c.sh, .int .i64 c.p0, .int .i64 c.p1, .int .i64 c.p2, .int .i64 c.cy, .int .i64 c.ex, .int .i64 c.fi, .int .i64 c.la, .int .i64 c.po] 24)
  have ct := fun w T => rEnds_no c y er w N K T
  have n1 : (er != 0) = true := bne_iff_ne.2 (by have := N.er; omega)
  clear N
  go_enter Tryz.func155, Tryz.ntmps155
  go_upto_region 1 with fail
  generalize w.alloc (.cells #[.string c.nm, .int .i64 c.k, .int .i64 c.d, .int .i64 c.m, .int .i64 c.s, .int .i64 c.sh, .int .i64 c.p0, .int .i64 c.p1, .int .i64 c.p2, .int .i64 c.cy, .int .i64 c.ex, .int .i64 c.fi, .int .i64 c.la, .int .i64 c.po] 24) = W0 at *
  obtain ⟨_, c0, c1, c2, c3, c4, c5, c6, c7, c8, c9, c10, c11, c12, c13⟩ := id C
  go_wp2_with fail
  refine (ct _ T).mono ?_
  rintro e w1 ⟨rfl, hb⟩
  replace C := C.kept hb
  replace B := bthen B hb
  replace T := T.kept hb
  clear hb c0 c1 c2 c3 c4 c5 c6 c7 c8 c9 c10 c11 c12 c13 
  obtain ⟨_, c0, c1, c2, c3, c4, c5, c6, c7, c8, c9, c10, c11, c12, c13⟩ := id C
  go_wp2
  go_ret2
  exact ⟨by simp, B⟩

set_option maxRecDepth 100000 in
theorem rWeeks15_ok (c : CalZ) (y : Int) (n : Nat) (w : World) (ok : CalOk c) (y0 : 1601 ≤ y) (y1 : y ≤ 9997) (hn : (n : Int) = per c) (K : ChkSays c) (hm : c.nm.size ≤ maxLen) (T : FTab w) :
    Calls Tryz.prog 155 #[.agg #[.string c.nm, .int .i64 c.k, .int .i64 c.d, .int .i64 c.m, .int .i64 c.s, .int .i64 c.sh, .int .i64 c.p0, .int .i64 c.p1, .int .i64 c.p2, .int .i64 c.cy, .int .i64 c.ex, .int .i64 c.fi, .int .i64 c.la, .int .i64 c.po], .int .i64 y] w (IntsOut2 w n (fwk c y)) := by
  obtain ⟨i1, hi, hz0, hz1, hz2⟩ := info_parts hinfoN
  have C := CalIn.new w c 24
  have B := balloc (Below.refl _ w) (.cells #[.string c.nm, .int .i64 c.k, .int .i64 c.d, .int .i64 c.m, .int .i64 c.s, .int .i64 c.sh, .int .i64 c.p0, .int .i64 c.p1, .int .i64 c.p2, .int .i64 c.cy, .int .i64 c.ex, .int .i64 c.fi, .int .i64 c.la, .int .i64 c.po] 24)
  replace T := T.alloc (.cells #[.string c.nm, .int .i64 c.k, .int .i64 c.d, .int .i64 c.m, .int .i64 c.s, .int .i64 c.sh, .int .i64 c.p0, .int .i64 c.p1, .int .i64 c.p2, .int .i64 c.cy, .int .i64 c.ex, .int .i64 c.fi, .int .i64 c.la, .int .i64 c.po] 24)
  have ce := fun w T => rEnds_ok c y n w ok y0 y1 hn K hm T
  have z0 := pend_zero c y
  obtain ⟨s, hs⟩ : ∃ s, pend c y 0 + 1 = s := ⟨_, rfl⟩
  have cs := fun w => rStart_any c y s 0 w (.inl ⟨ok, y0, y1, by rw [← hs, z0], rfl⟩) K
  have pb := per_bd ok.1
  have HL : Hid (∀ k : Nat, k < n → ∃ F v q : Int, pend c y k + 1 = F ∧ fend c y k = v ∧ fwk c y k = q ∧ 0 ≤ F ∧ F ≤ 3068037 ∧ 0 ≤ v ∧ v ≤ 3068036 ∧ F ≤ v + 1 ∧ q = (v - F + 7) / 7 ∧ pend c y ((k : Int) + 1) = v) :=
    Lib.hid (fun k hk => by
      have b0 := pend_bd ok.1 y0 y1 (p := k) (by omega) (by omega)
      have b1 := pend_bd ok.1 y0 y1 (p := (k : Int) + 1) (by omega) (by omega)
      have mo := pend_mono ok.1 y0 y1 (a := k) (b := (k : Int) + 1) (by omega) (by omega) (by omega)
      refine ⟨_, _, _, rfl, rfl, rfl, by omega, by omega, b1.1, b1.2, by show pend c y k + 1 ≤ pend c y ((k : Int) + 1) + 1; omega, ?_, rfl⟩
      show wks c y ((k : Int) + 1) = (pend c y ((k : Int) + 1) - (pend c y k + 1) + 7) / 7
      unfold wks
      rw [show (k : Int) + 1 - 1 = k by omega]
      congr 1; omega)
  have HS := Lib.hid hs
  have n52 : (n : Int) ≤ 52 := by omega
  have n12 : (12 : Int) ≤ (n : Int) := by omega
  clear ok hn pb K z0 hs
  go_enter Tryz.func155, Tryz.ntmps155
  go_upto_region 1 with fail
  generalize w.alloc (.cells #[.string c.nm, .int .i64 c.k, .int .i64 c.d, .int .i64 c.m, .int .i64 c.s, .int .i64 c.sh, .int .i64 c.p0, .int .i64 c.p1, .int .i64 c.p2, .int .i64 c.cy, .int .i64 c.ex, .int .i64 c.fi, .int .i64 c.la, .int .i64 c.po] 24) = W0 at *
  obtain ⟨_, c0, c1, c2, c3, c4, c5, c6, c7, c8, c9, c10, c11, c12, c13⟩ := id C
  go_wp2_with fail
  refine (ce _ T).mono ?_
  rintro e w1 ⟨ge, cape, rfl, R, hge, hb⟩
  replace C := C.kept hb
  replace B := bthen B hb
  replace T := T.kept hb
  clear hb c0 c1 c2 c3 c4 c5 c6 c7 c8 c9 c10 c11 c12 c13 
  obtain ⟨_, c0, c1, c2, c3, c4, c5, c6, c7, c8, c9, c10, c11, c12, c13⟩ := id C
  clear hge
  obtain ⟨_, _, _⟩ := id R
  go_wp2_with fail
  refine (cs _).mono ?_
  rintro e w2 ⟨rfl, hb⟩
  replace C := C.kept hb
  replace B := bthen B hb
  replace T := T.kept hb
  replace R := R.kept hb
  clear hb c0 c1 c2 c3 c4 c5 c6 c7 c8 c9 c10 c11 c12 c13 
  obtain ⟨_, c0, c1, c2, c3, c4, c5, c6, c7, c8, c9, c10, c11, c12, c13⟩ := id C
  obtain ⟨_, _, _⟩ := id R
  clear ce cs
  clear c0 c1 c2 c3 c4 c5 c6 c7 c8 c9 c10 c11 c12 c13 
  go_wp2
  go_loopw [8, 10, 30] (fun F Z Y wr => ∃ k : Nat, k ≤ n ∧ Y = .int .i64 (k : Int) ∧ F = .int .i64 (pend c y k + 1) ∧ One1 3 w2 wr Z k (fwk c y)) (fun _ _ Y _ => n - (intOf Y).toNat)
  case atStart => exact ⟨0, by omega, rfl, by rw [← HS.out]; rfl, One1.start _ _ (Below.refl _ _)⟩
  case round =>
    obtain ⟨k, kM, rfl, rfl, X⟩ := hrel
    have R2 := R.kept X.below
    by_cases hlt : k < n
    · obtain ⟨F, v, q, hF, hv, hq, F0, F1, v0, v1, Fv, e, hv2⟩ := HL.out k hlt
      have rk := R2.c k hlt
      rw [hv] at rk
      rw [hF]
      have HV := Lib.hid (And.intro hq hv2)
      have kk : (k : Int) < (n : Int) := by omega
      obtain ⟨z, hz⟩ : ∃ z, v - F + 7 = z := ⟨_, rfl⟩
      have z0 : 0 ≤ z ∧ z ≤ 3068050 := by omega
      rw [hz] at e
      have e1 : z.tdiv 7 = q := by rw [e]; exact Int.tdiv_eq_ediv_of_nonneg z0.1
      have e2 : z / 7 = q := e.symm
      have e3 : IntKind.i64.wrap q = q := IntWalk.i64_in _ (by omega)
      have e4 : IntKind.i64.wrap (z.tdiv 7) = q := by rw [e1, e3]
      clear e hF hv hq hv2 R2
      go_wp2_with (first
        | (at_builtin; refine wpList_append_own_at _ rfl _ _ 65 rfl w2.heap.size 3 i1 (.int .i64 0) 1 8 hunderN hi hz0 hz1 hz2 rfl (by decide) _ k (lst (fwk c y) k) rfl (X.a.alloc _) ⟨_, 0, none⟩ 1 1 [.int .i64 q] rfl rfl ?c1 ?c2 ?c3 ?c4 ?c5 ?m1))
      case c1 =>
        intro j u hj
        match j, hj with
        | 0, hj => simp at hj; subst hj; simp [Addr.add, go_sem]
      case c2 => intro u hu; simp at hu; rcases hu with rfl; rfl
      case c3 => unfold maxLen; omega
      case c4 => omega
      case c5 => have z1 := X.below.size; simp; omega
      case m1 =>
        intro v3 wz hown3 hg3 _ hat
        rw [← HV.out.1] at hown3
        have X4 := X.next hown3 hg3
        go_wp2
        go_roundw
        case rel => exact ⟨k + 1, by omega, by go_num, by rw [← HV.out.2]; rfl, X4⟩
        case measure => simp [intOf]; omega
    · obtain rfl : k = n := by omega
      have Q := X.out (by omega)
      obtain ⟨g, cap, rfl, Q, le, hcap⟩ := Q
      have bb := bthen B X.below
      have Z : IntsOut2 w k (fwk c y) (.returned (.tuple #[.slice (some ⟨g, 0, none⟩) k cap, .int .i64 0])) wr := ⟨g, cap, rfl, Q, by omega, bb, hcap⟩
      have HZ := Lib.hid Z
      clear Z Q X bb
      go_wp2
      exact bodyPost_ret (v := .tuple #[.slice (some ⟨g, 0, none⟩) k cap, .int .i64 0]) (by simp [results, Tryz.results155, go_sem]) rfl HZ.out

set_option maxRecDepth 100000 in
theorem rAdded_a (c : CalZ) (y : Int) (n : Nat) (w : World) (ok : CalOk c) (k6 : c.k ≠ 6) (y0 : 1601 ≤ y) (y1 : y ≤ 9997) (hn : (n : Int) = per c) (n52 : nweeks c y = 52) (K : ChkSays c) (hm : c.nm.size ≤ maxLen) (T : FTab w) :
    Calls Tryz.prog 99 #[.agg #[.string c.nm, .int .i64 c.k, .int .i64 c.d, .int .i64 c.m, .int .i64 c.s, .int .i64 c.sh, .int .i64 c.p0, .int .i64 c.p1, .int .i64 c.p2, .int .i64 c.cy, .int .i64 c.ex, .int .i64 c.fi, .int .i64 c.la, .int .i64 c.po], .int .i64 y] w fun e w' => e = .returned (.tuple #[.int .i64 0, .int .i64 0]) ∧ Below w.heap.size w w' := by
  have C := CalIn.new w c 24
  have B := balloc (Below.refl _ w) (.cells #[.string c.nm, .int .i64 c.k, .int .i64 c.d, .int .i64 c.m, .int .i64 c.s, .int .i64 c.sh, .int .i64 c.p0, .int .i64 c.p1, .int .i64 c.p2, .int .i64 c.cy, .int .i64 c.ex, .int .i64 c.fi, .int .i64 c.la, .int .i64 c.po] 24)
  replace T := T.alloc (.cells #[.string c.nm, .int .i64 c.k, .int .i64 c.d, .int .i64 c.m, .int .i64 c.s, .int .i64 c.sh, .int .i64 c.p0, .int .i64 c.p1, .int .i64 c.p2, .int .i64 c.cy, .int .i64 c.ex, .int .i64 c.fi, .int .i64 c.la, .int .i64 c.po] 24)
  have ck := fun w => K 0 w (.inl ⟨ok, rfl⟩)
  have ce := fun w T => rWeeks15_ok c y n w ok y0 y1 hn K hm T
  have cw := fun w => rWeeks_any c y 52 0 w (.inl ⟨ok, k6, y0, y1, n52.symm, rfl⟩) K
  have d6 : (c.k == 6) = false := beq_eq_false_iff_ne.2 k6
  clear K ok k6 n52
  go_enter Tryz.func99, Tryz.ntmps99
  go_upto_region 1 with fail
  generalize w.alloc (.cells #[.string c.nm, .int .i64 c.k, .int .i64 c.d, .int .i64 c.m, .int .i64 c.s, .int .i64 c.sh, .int .i64 c.p0, .int .i64 c.p1, .int .i64 c.p2, .int .i64 c.cy, .int .i64 c.ex, .int .i64 c.fi, .int .i64 c.la, .int .i64 c.po] 24) = W0 at *
  obtain ⟨_, c0, c1, c2, c3, c4, c5, c6, c7, c8, c9, c10, c11, c12, c13⟩ := id C
  go_wp2_with fail
  refine (ck _).mono ?_
  rintro e w1 ⟨rfl, hb⟩
  replace C := C.kept hb
  replace B := bthen B hb
  replace T := T.kept hb
  clear hb c0 c1 c2 c3 c4 c5 c6 c7 c8 c9 c10 c11 c12 c13 
  obtain ⟨_, c0, c1, c2, c3, c4, c5, c6, c7, c8, c9, c10, c11, c12, c13⟩ := id C
  go_wp2_with fail
  refine (ce _ T).mono ?_
  rintro e w2 ⟨ge, cape, rfl, R, hge, hb, hcp⟩
  replace C := C.kept hb
  replace B := bthen B hb
  replace T := T.kept hb
  clear hb c0 c1 c2 c3 c4 c5 c6 c7 c8 c9 c10 c11 c12 c13 
  obtain ⟨_, c0, c1, c2, c3, c4, c5, c6, c7, c8, c9, c10, c11, c12, c13⟩ := id C
  clear hge
  go_wp2_with fail
  refine (cw _).mono ?_
  rintro e w3 ⟨rfl, hb⟩
  replace C := C.kept hb
  replace B := bthen B hb
  replace T := T.kept hb
  clear hb c0 c1 c2 c3 c4 c5 c6 c7 c8 c9 c10 c11 c12 c13 
  obtain ⟨_, c0, c1, c2, c3, c4, c5, c6, c7, c8, c9, c10, c11, c12, c13⟩ := id C
  go_wp2
  go_ret2
  exact ⟨by simp, B⟩

set_option maxRecDepth 100000 in
theorem rAdded_b (c : CalZ) (y v : Int) (n : Nat) (w : World) (ok : CalOk c) (k6 : c.k ≠ 6) (y0 : 1601 ≤ y) (y1 : y ≤ 9997) (hn : (n : Int) = per c) (n53 : nweeks c y = 53) (hv : v = (pend c y c.ex - pend c y 0) / 7) (K : ChkSays c) (hm : c.nm.size ≤ maxLen) (T : FTab w) :
    Calls Tryz.prog 99 #[.agg #[.string c.nm, .int .i64 c.k, .int .i64 c.d, .int .i64 c.m, .int .i64 c.s, .int .i64 c.sh, .int .i64 c.p0, .int .i64 c.p1, .int .i64 c.p2, .int .i64 c.cy, .int .i64 c.ex, .int .i64 c.fi, .int .i64 c.la, .int .i64 c.po], .int .i64 y] w fun e w' => e = .returned (.tuple #[.int .i64 v, .int .i64 0]) ∧ Below w.heap.size w w' := by
  have C := CalIn.new w c 24
  have B := balloc (Below.refl _ w) (.cells #[.string c.nm, .int .i64 c.k, .int .i64 c.d, .int .i64 c.m, .int .i64 c.s, .int .i64 c.sh, .int .i64 c.p0, .int .i64 c.p1, .int .i64 c.p2, .int .i64 c.cy, .int .i64 c.ex, .int .i64 c.fi, .int .i64 c.la, .int .i64 c.po] 24)
  replace T := T.alloc (.cells #[.string c.nm, .int .i64 c.k, .int .i64 c.d, .int .i64 c.m, .int .i64 c.s, .int .i64 c.sh, .int .i64 c.p0, .int .i64 c.p1, .int .i64 c.p2, .int .i64 c.cy, .int .i64 c.ex, .int .i64 c.fi, .int .i64 c.la, .int .i64 c.po] 24)
  have ck := fun w => K 0 w (.inl ⟨ok, rfl⟩)
  have ce := fun w T => rWeeks15_ok c y n w ok y0 y1 hn K hm T
  have cw := fun w => rWeeks_any c y 53 0 w (.inl ⟨ok, k6, y0, y1, n53.symm, rfl⟩) K
  have d6 : (c.k == 6) = false := beq_eq_false_iff_ne.2 k6
  have pb := per_bd ok.1
  have ex := pb.2.2 k6
  obtain ⟨x, hx⟩ : ∃ x : Nat, (x : Int) = c.ex := ⟨c.ex.toNat, by omega⟩
  have HW : Hid (∀ k : Nat, k ≤ x → 0 ≤ wsum c y k ∧ wsum c y k ≤ 3068037) := Lib.hid (fun k hk => by
    have ws := wsum_end ok.1 k6 y0 y1 k (by omega)
    have b0 := pend_bd ok.1 y0 y1 (p := k) (by omega) (by omega)
    have b1 := pend_bd ok.1 y0 y1 (p := 0) (by omega) (by omega)
    have mo := pend_mono ok.1 y0 y1 (a := 0) (b := k) (by omega) (by omega) (by omega)
    omega)
  have HV : Hid (wsum c y x = v) := Lib.hid (by
    have ws := wsum_end ok.1 k6 y0 y1 x (by omega)
    rw [hx] at ws
    omega)
  have HS : Hid (∀ k : Nat, wsum c y (k + 1) = wsum c y k + fwk c y k) := Lib.hid (fun k => rfl)
  have xn : x ≤ n := by omega
  have xn2 : (x : Int) ≤ (n : Int) := by omega
  have x52 : (x : Int) ≤ 52 := by omega
  have n52 : (n : Int) ≤ 52 := by omega
  clear K ok k6 n53 hn pb ex hv
  go_enter Tryz.func99, Tryz.ntmps99
  go_upto_region 1 with fail
  generalize w.alloc (.cells #[.string c.nm, .int .i64 c.k, .int .i64 c.d, .int .i64 c.m, .int .i64 c.s, .int .i64 c.sh, .int .i64 c.p0, .int .i64 c.p1, .int .i64 c.p2, .int .i64 c.cy, .int .i64 c.ex, .int .i64 c.fi, .int .i64 c.la, .int .i64 c.po] 24) = W0 at *
  obtain ⟨_, c0, c1, c2, c3, c4, c5, c6, c7, c8, c9, c10, c11, c12, c13⟩ := id C
  go_wp2_with fail
  refine (ck _).mono ?_
  rintro e w1 ⟨rfl, hb⟩
  replace C := C.kept hb
  replace B := bthen B hb
  replace T := T.kept hb
  clear hb c0 c1 c2 c3 c4 c5 c6 c7 c8 c9 c10 c11 c12 c13 
  obtain ⟨_, c0, c1, c2, c3, c4, c5, c6, c7, c8, c9, c10, c11, c12, c13⟩ := id C
  go_wp2_with fail
  refine (ce _ T).mono ?_
  rintro e w2 ⟨ge, cape, rfl, R, hge, hb, hcp⟩
  replace C := C.kept hb
  replace B := bthen B hb
  replace T := T.kept hb
  clear hb c0 c1 c2 c3 c4 c5 c6 c7 c8 c9 c10 c11 c12 c13 
  obtain ⟨_, c0, c1, c2, c3, c4, c5, c6, c7, c8, c9, c10, c11, c12, c13⟩ := id C
  clear hge
  obtain ⟨_, _, _⟩ := id R
  go_wp2_with fail
  refine (cw _).mono ?_
  rintro e w3 ⟨rfl, hb⟩
  replace C := C.kept hb
  replace B := bthen B hb
  replace T := T.kept hb
  replace R := R.kept hb
  clear hb c0 c1 c2 c3 c4 c5 c6 c7 c8 c9 c10 c11 c12 c13 
  obtain ⟨_, c0, c1, c2, c3, c4, c5, c6, c7, c8, c9, c10, c11, c12, c13⟩ := id C
  obtain ⟨_, _, _⟩ := id R
  rw [← hx] at c10
  clear ck ce cw
  have HX := Lib.hid hx
  clear hx
  have xc : (x : Int) ≤ (cape : Int) := by omega
  have x0 : (0 : Int) ≤ (x : Int) := by omega
  have s0 : wsum c y 0 = 0 := rfl
  have H0 := Lib.hid s0
  clear s0
  go_wp2
  go_loopw [10, 43] (fun Z Y wr => ∃ k : Nat, k ≤ x ∧ Y = .int .i64 (k : Int) ∧ Z = .int .i64 (wsum c y k) ∧ Below w3.heap.size w3 wr) (fun _ Y _ => x - (intOf Y).toNat)
  case atStart => exact ⟨0, by omega, rfl, by rw [H0.out], Below.refl _ _⟩
  case round =>
    obtain ⟨k, kM, rfl, rfl, B2⟩ := hrel
    by_cases hlt : k < x
    · have rk := (R.kept B2).c k (by omega)
      have b1 := HW.out k (by omega)
      have b2 := HW.out (k + 1) (by omega)
      have es := HS.out k
      have HE := Lib.hid es
      obtain ⟨p, hp⟩ : ∃ p, wsum c y k = p := ⟨_, rfl⟩
      obtain ⟨q, hq⟩ : ∃ q, fwk c y k = q := ⟨_, rfl⟩
      rw [es] at b2
      rw [hp, hq] at b2
      rw [hp] at b1
      rw [hq] at rk
      rw [hp]
      have HPQ := Lib.hid (And.intro hp hq)
      have kk : (k : Int) < (x : Int) := by omega
      clear es hp hq
      go_wp2
      go_roundw
      case rel => exact ⟨k + 1, by omega, by go_num, by rw [HE.out, HPQ.out.1, HPQ.out.2], B2⟩
      case measure => simp [intOf]; omega
    · obtain rfl : k = x := by omega
      have kk : decide ((k : Int) < (k : Int)) = false := decide_eq_false (by omega)
      rw [HV.out]
      go_wp2
      go_ret2
      exact ⟨by simp, bthen B B2⟩

set_option maxRecDepth 100000 in
theorem rAdded_c (c : CalZ) (y er : Int) (w : World) (ok : CalOk c) (k6 : c.k ≠ 6) (N : NoYear c y er) (K : ChkSays c) (T : FTab w) :
    Calls Tryz.prog 99 #[.agg #[.string c.nm, .int .i64 c.k, .int .i64 c.d, .int .i64 c.m, .int .i64 c.s, .int .i64 c.sh, .int .i64 c.p0, .int .i64 c.p1, .int .i64 c.p2, .int .i64 c.cy, .int .i64 c.ex, .int .i64 c.fi, .int .i64 c.la, .int .i64 c.po], .int .i64 y] w fun e w' => e = .returned (.tuple #[.int .i64 0, .int .i64 er]) ∧ Below w.heap.size w w' := by
  have C := CalIn.new w c 24
  have B := balloc (Below.refl _ w) (.cells #[.string c.nm, .int .i64 c.k, .int .i64 c.d, .int .i64 c.m, .int .i64 c.s, .int .i64 c.sh, .int .i64 c.p0, .int .i64 c.p1, .int .i64 c.p2, .int .i64 c.cy, .int .i64 c.ex, .int .i64 c.fi, .int .i64 c.la, .int .i64 c.po] 24)
  replace T := T.alloc (.cells #[.string c.nm, .int .i64 c.k, .int .i64 c.d, .int .i64 c.m, .int .i64 c.s, .int .i64 c.sh, .int .i64 c.p0, .int .i64 c.p1, .int .i64 c.p2, .int .i64 c.cy, .int .i64 c.ex, .int .i64 c.fi, .int .i64 c.la, .int .i64 c.po] 24)
  have ck := fun w => K 0 w (.inl ⟨ok, rfl⟩)
  have ce := fun w T => rWeeks15_no c y er w N K T
  have n1 : (er != 0) = true := bne_iff_ne.2 (by have := N.er; omega)
  have d6 : (c.k == 6) = false := beq_eq_false_iff_ne.2 k6
  clear K ok k6 N
  go_enter Tryz.func99, Tryz.ntmps99
  go_upto_region 1 with fail
  generalize w.alloc (.cells #[.string c.nm, .int .i64 c.k, .int .i64 c.d, .int .i64 c.m, .int .i64 c.s, .int .i64 c.sh, .int .i64 c.p0, .int .i64 c.p1, .int .i64 c.p2, .int .i64 c.cy, .int .i64 c.ex, .int .i64 c.fi, .int .i64 c.la, .int .i64 c.po] 24) = W0 at *
  obtain ⟨_, c0, c1, c2, c3, c4, c5, c6, c7, c8, c9, c10, c11, c12, c13⟩ := id C
  go_wp2_with fail
  refine (ck _).mono ?_
  rintro e w1 ⟨rfl, hb⟩
  replace C := C.kept hb
  replace B := bthen B hb
  replace T := T.kept hb
  clear hb c0 c1 c2 c3 c4 c5 c6 c7 c8 c9 c10 c11 c12 c13 
  obtain ⟨_, c0, c1, c2, c3, c4, c5, c6, c7, c8, c9, c10, c11, c12, c13⟩ := id C
  go_wp2_with fail
  refine (ce _ T).mono ?_
  rintro e w2 ⟨rfl, hb⟩
  replace C := C.kept hb
  replace B := bthen B hb
  replace T := T.kept hb
  clear hb c0 c1 c2 c3 c4 c5 c6 c7 c8 c9 c10 c11 c12 c13 
  obtain ⟨_, c0, c1, c2, c3, c4, c5, c6, c7, c8, c9, c10, c11, c12, c13⟩ := id C
  go_wp2
  go_ret2
  exact ⟨by simp, B⟩

set_option maxRecDepth 100000 in
theorem rAdded_d (c : CalZ) (y er : Int) (w : World) (h : (er != 0) = true ∨ ((er != 0) = false ∧ (c.k == 6) = true)) (R : ChkA c er) (K : ChkSays c) (T : FTab w) :
    Calls Tryz.prog 99 #[.agg #[.string c.nm, .int .i64 c.k, .int .i64 c.d, .int .i64 c.m, .int .i64 c.s, .int .i64 c.sh, .int .i64 c.p0, .int .i64 c.p1, .int .i64 c.p2, .int .i64 c.cy, .int .i64 c.ex, .int .i64 c.fi, .int .i64 c.la, .int .i64 c.po], .int .i64 y] w fun e w' => e = .returned (.tuple #[.int .i64 0, .int .i64 1]) ∧ Below w.heap.size w w' := by
  have C := CalIn.new w c 24
  have B := balloc (Below.refl _ w) (.cells #[.string c.nm, .int .i64 c.k, .int .i64 c.d, .int .i64 c.m, .int .i64 c.s, .int .i64 c.sh, .int .i64 c.p0, .int .i64 c.p1, .int .i64 c.p2, .int .i64 c.cy, .int .i64 c.ex, .int .i64 c.fi, .int .i64 c.la, .int .i64 c.po] 24)
  replace T := T.alloc (.cells #[.string c.nm, .int .i64 c.k, .int .i64 c.d, .int .i64 c.m, .int .i64 c.s, .int .i64 c.sh, .int .i64 c.p0, .int .i64 c.p1, .int .i64 c.p2, .int .i64 c.cy, .int .i64 c.ex, .int .i64 c.fi, .int .i64 c.la, .int .i64 c.po] 24)
  have ck := fun w => K er w R
  clear K R
  rcases h with h | ⟨h, d6⟩
  all_goals
    go_enter Tryz.func99, Tryz.ntmps99
    go_upto_region 1 with fail
    generalize w.alloc (.cells #[.string c.nm, .int .i64 c.k, .int .i64 c.d, .int .i64 c.m, .int .i64 c.s, .int .i64 c.sh, .int .i64 c.p0, .int .i64 c.p1, .int .i64 c.p2, .int .i64 c.cy, .int .i64 c.ex, .int .i64 c.fi, .int .i64 c.la, .int .i64 c.po] 24) = W0 at *
    obtain ⟨_, c0, c1, c2, c3, c4, c5, c6, c7, c8, c9, c10, c11, c12, c13⟩ := id C
    go_wp2_with fail
    refine (ck _).mono ?_
    rintro e w1 ⟨rfl, hb⟩
    replace C := C.kept hb
    replace B := bthen B hb
    replace T := T.kept hb
    clear hb c0 c1 c2 c3 c4 c5 c6 c7 c8 c9 c10 c11 c12 c13 
    obtain ⟨_, c0, c1, c2, c3, c4, c5, c6, c7, c8, c9, c10, c11, c12, c13⟩ := id C
    go_wp2
    go_ret2
    exact ⟨by simp, B⟩

theorem rAdded_any (c : CalZ) (y v er : Int) (w : World) (R : AddedA c y v er) (K : ChkSays c) (hm : c.nm.size ≤ maxLen) (T : FTab w) :
    Calls Tryz.prog 99 #[.agg #[.string c.nm, .int .i64 c.k, .int .i64 c.d, .int .i64 c.m, .int .i64 c.s, .int .i64 c.sh, .int .i64 c.p0, .int .i64 c.p1, .int .i64 c.p2, .int .i64 c.cy, .int .i64 c.ex, .int .i64 c.fi, .int .i64 c.la, .int .i64 c.po], .int .i64 y] w fun e w' => e = .returned (.tuple #[.int .i64 v, .int .i64 er]) ∧ Below w.heap.size w w' := by
  rcases R with ⟨ok, k6, y0, y1, ⟨n52, rfl⟩ | ⟨n53, hv⟩, rfl⟩ | ⟨ok, k6, hy, rfl, rfl⟩ | ⟨no, rfl, rfl⟩
  · have pb := per_bd ok.1
    exact rAdded_a c y (per c).toNat w ok k6 y0 y1 (by omega) n52 K hm T
  · have pb := per_bd ok.1
    exact rAdded_b c y v (per c).toNat w ok k6 y0 y1 (by omega) n53 hv K hm T
  · exact rAdded_c c y 11 w ok k6 (.inl ⟨ok, hy, rfl⟩) K T
  · by_cases ok : CalOk c
    · have k6 := no.resolve_left (fun h => h ok)
      exact rAdded_d c y 0 w (.inr ⟨by decide, beq_iff_eq.2 k6⟩) (.inl ⟨ok, rfl⟩) K T
    · exact rAdded_d c y 1 w (.inl (by decide)) (.inr ⟨ok, rfl⟩) K T

end Go.Proofs.YtkfogmaogfgcgaaGreatDoor.Hr

