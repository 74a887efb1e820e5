/- What Ends, Weeks and Added of the reference of layer 15 come to. -/
import Derived.Maps.AppendAt
import Derived.Maps.OwnIn
import Derived.Test.YtjiifmdjhdhabaaGreatDoorHcode6
import Derived.Test.YtjiifmdjhdhabaaGreatDoorHquar
import Derived.Test.YtjiifmdjhdhabaaGreatDoorArend
import Derived.Test.YtjiifmdjhdhabaaGreatDoorHrm
import Derived.Test.YtjiifmdjhdhabaaGreatDoorProw2
namespace Go.Proofs.YtjiifmdjhdhabaaGreatDoor.Hr
set_option linter.unusedSimpArgs false
set_option linter.unusedVariables false
open Go.RowKit Go.Maps Go.Proofs.YtjiifmdjhdhabaaGreatDoor.Bn Go.Proofs.YtjiifmdjhdhabaaGreatDoor.Bx Go.Proofs.YtjiifmdjhdhabaaGreatDoor.Cp Go.Proofs.YtjiifmdjhdhabaaGreatDoor.Am Go.Proofs.YtjiifmdjhdhabaaGreatDoor.Fp Go.Proofs.YtjiifmdjhdhabaaGreatDoor.Ap Go.Proofs.YtjiifmdjhdhabaaGreatDoor.Ar Go.Proofs.YtjiifmdjhdhabaaGreatDoor.Cm Go.Proofs.YtjiifmdjhdhabaaGreatDoor.Em Go.Proofs.YtjiifmdjhdhabaaGreatDoor.Ep Go.Proofs.YtjiifmdjhdhabaaGreatDoor.Rk Go.Proofs.YtjiifmdjhdhabaaGreatDoor.Hp

set_option maxHeartbeats 8000000

set_option maxRecDepth 100000 in
theorem rtold15_any (c : CalZ) (y v er : Int) (w : World) (R : StartA c y v er) (K : ChkSays c) (T : FTab w) :
    Calls Tryz.prog 80 #[.agg #[.string c.nm, .int .i64 c.k, .int .i64 c.d, .int .i64 c.m, .int .i64 c.s, .int .i64 c.sh, .int .i64 c.p0, .int .i64 c.p1, .int .i64 c.p2, .int .i64 c.cy, .int .i64 c.ex, .int .i64 c.fi, .int .i64 c.la, .int .i64 c.po], .int .i64 y] w fun e w' => e = .returned (.int .i64 er) ∧ Below w.heap.size w w' := by
  have C := CalIn.new w c 24
  have B := balloc (Below.refl _ w) (.cells #[.string c.nm, .int .i64 c.k, .int .i64 c.d, .int .i64 c.m, .int .i64 c.s, .int .i64 c.sh, .int .i64 c.p0, .int .i64 c.p1, .int .i64 c.p2, .int .i64 c.cy, .int .i64 c.ex, .int .i64 c.fi, .int .i64 c.la, .int .i64 c.po] 24)
  replace T := T.alloc (.cells #[.string c.nm, .int .i64 c.k, .int .i64 c.d, .int .i64 c.m, .int .i64 c.s, .int .i64 c.sh, .int .i64 c.p0, .int .i64 c.p1, .int .i64 c.p2, .int .i64 c.cy, .int .i64 c.ex, .int .i64 c.fi, .int .i64 c.la, .int .i64 c.po] 24)
  have cs := fun w => rStart_any c y v er w R K
  go_enter Tryz.func80, Tryz.ntmps80
  go_upto_region 1 with fail
  generalize w.alloc (.cells #[.string c.nm, .int .i64 c.k, .int .i64 c.d, .int .i64 c.m, .int .i64 c.s, .int .i64 c.sh, .int .i64 c.p0, .int .i64 c.p1, .int .i64 c.p2, .int .i64 c.cy, .int .i64 c.ex, .int .i64 c.fi, .int .i64 c.la, .int .i64 c.po] 24) = W0 at *
  obtain ⟨_, c0, c1, c2, c3, c4, c5, c6, c7, c8, c9, c10, c11, c12, c13⟩ := id C
  go_wp2_with fail
  refine (cs _).mono ?_
  rintro e w1 ⟨rfl, hb⟩
  replace C := C.kept hb
  replace B := bthen B hb
  replace T := T.kept hb
  clear hb c0 c1 c2 c3 c4 c5 c6 c7 c8 c9 c10 c11 c12 c13 
  obtain ⟨_, c0, c1, c2, c3, c4, c5, c6, c7, c8, c9, c10, c11, c12, c13⟩ := id C
  go_wp2
  go_ret
  exact ⟨rfl, B⟩

set_option maxRecDepth 100000 in
theorem rEnds_no (c : CalZ) (y er : Int) (w : World) (N : NoYear c y er) (K : ChkSays c) (T : FTab w) :
    Calls Tryz.prog 44 #[.agg #[.string c.nm, .int .i64 c.k, .int .i64 c.d, .int .i64 c.m, .int .i64 c.s, .int .i64 c.sh, .int .i64 c.p0, .int .i64 c.p1, .int .i64 c.p2, .int .i64 c.cy, .int .i64 c.ex, .int .i64 c.fi, .int .i64 c.la, .int .i64 c.po], .int .i64 y] w fun e w' => e = .returned (.tuple #[.slice none 0 0, .int .i64 er]) ∧ Below w.heap.size w w' := by
  have C := CalIn.new w c 24
  have B := balloc (Below.refl _ w) (.cells #[.string c.nm, .int .i64 c.k, .int .i64 c.d, .int .i64 c.m, .int .i64 c.s, .int .i64 c.sh, .int .i64 c.p0, .int .i64 c.p1, .int .i64 c.p2, .int .i64 c.cy, .int .i64 c.ex, .int .i64 c.fi, .int .i64 c.la, .int .i64 c.po] 24)
  replace T := T.alloc (.cells #[.string c.nm, .int .i64 c.k, .int .i64 c.d, .int .i64 c.m, .int .i64 c.s, .int .i64 c.sh, .int .i64 c.p0, .int .i64 c.p1, .int .i64 c.p2, .int .i64 c.cy, .int .i64 c.ex, .int .i64 c.fi, .int .i64 c.la, .int .i64 c.po] 24)
  have ct := fun w T => rtold15_any c y 0 er w N.start K T
  have n1 : (er != 0) = true := bne_iff_ne.2 (by have := N.er; omega)
  clear N
  go_enter Tryz.func44, Tryz.ntmps44
  go_upto_region 1 with fail
  generalize w.alloc (.cells #[.string c.nm, .int .i64 c.k, .int .i64 c.d, .int .i64 c.m, .int .i64 c.s, .int .i64 c.sh, .int .i64 c.p0, .int .i64 c.p1, .int .i64 c.p2, .int .i64 c.cy, .int .i64 c.ex, .int .i64 c.fi, .int .i64 c.la, .int .i64 c.po] 24) = W0 at *
  obtain ⟨_, c0, c1, c2, c3, c4, c5, c6, c7, c8, c9, c10, c11, c12, c13⟩ := id C
  go_wp2_with fail
  refine (ct _ T).mono ?_
  rintro e w1 ⟨rfl, hb⟩
  replace C := C.kept hb
  replace B := bthen B hb
  replace T := T.kept hb
  clear hb c0 c1 c2 c3 c4 c5 c6 c7 c8 c9 c10 c11 c12 c13 
  obtain ⟨_, c0, c1, c2, c3, c4, c5, c6, c7, c8, c9, c10, c11, c12, c13⟩ := id C
  go_wp2
  go_ret2
  exact ⟨by simp, B⟩

set_option maxRecDepth 100000 in
theorem rends_broad (c : CalZ) (y : Int) (n : Nat) (w : World) (ok : CalOk c) (y0 : 1601 ≤ y) (y1 : y ≤ 9997) (hn : (n : Int) = per c) (K : ChkSays c) (hm : c.nm.size ≤ maxLen) (T : FTab w) (sh : c.sh = 4) :
    Calls Tryz.prog 44 #[.agg #[.string c.nm, .int .i64 c.k, .int .i64 c.d, .int .i64 c.m, .int .i64 c.s, .int .i64 c.sh, .int .i64 c.p0, .int .i64 c.p1, .int .i64 c.p2, .int .i64 c.cy, .int .i64 c.ex, .int .i64 c.fi, .int .i64 c.la, .int .i64 c.po], .int .i64 y] w (IntsOut w n (fend c y)) := by
  obtain ⟨i1, hi, hz0, hz1, hz2⟩ := info_parts hinfoN
  have C := CalIn.new w c 24
  have B := balloc (Below.refl _ w) (.cells #[.string c.nm, .int .i64 c.k, .int .i64 c.d, .int .i64 c.m, .int .i64 c.s, .int .i64 c.sh, .int .i64 c.p0, .int .i64 c.p1, .int .i64 c.p2, .int .i64 c.cy, .int .i64 c.ex, .int .i64 c.fi, .int .i64 c.la, .int .i64 c.po] 24)
  replace T := T.alloc (.cells #[.string c.nm, .int .i64 c.k, .int .i64 c.d, .int .i64 c.m, .int .i64 c.s, .int .i64 c.sh, .int .i64 c.p0, .int .i64 c.p1, .int .i64 c.p2, .int .i64 c.cy, .int .i64 c.ex, .int .i64 c.fi, .int .i64 c.la, .int .i64 c.po] 24)
  have pb : per c = 12 := by
    rcases sh_cases ok.1 with ⟨_, e⟩ | ⟨s, _⟩ | ⟨s, _⟩
    · exact e
    · omega
    · exact absurd sh s
  obtain rfl : n = 12 := by omega
  have ct := fun w T => rtold15_any c y _ 0 w (.inl ⟨ok, y0, y1, rfl, rfl⟩) K T
  have HL : Hid (∀ k : Nat, k < 12 → ∃ v : Int, fend c y k = v ∧ ∀ w, Calls Tryz.prog 81 #[.int .i64 y, .int .i64 ((k : Int) + 1), .int .i64 7] w fun e w' => e = .returned (.tuple #[.int .i64 v, .int .i64 0]) ∧ Below w.heap.size w w') :=
    Lib.hid (fun k hk => ⟨_, rfl, fun w => Go.Proofs.YtjiifmdjhdhabaaGreatDoor.Er.rLast_any y ((k : Int) + 1) 7 _ 0 w (broad_last ok.1 sh y0 y1 (by omega) (by omega))⟩)
  have s4 : (c.sh == 4) = true := beq_iff_eq.2 sh
  clear ok hn pb sh K
  go_enter Tryz.func44, Tryz.ntmps44
  go_upto_region 1 with fail
  generalize w.alloc (.cells #[.string c.nm, .int .i64 c.k, .int .i64 c.d, .int .i64 c.m, .int .i64 c.s, .int .i64 c.sh, .int .i64 c.p0, .int .i64 c.p1, .int .i64 c.p2, .int .i64 c.cy, .int .i64 c.ex, .int .i64 c.fi, .int .i64 c.la, .int .i64 c.po] 24) = W0 at *
  obtain ⟨_, c0, c1, c2, c3, c4, c5, c6, c7, c8, c9, c10, c11, c12, c13⟩ := id C
  go_wp2_with fail
  refine (ct _ T).mono ?_
  rintro e w1 ⟨rfl, hb⟩
  replace C := C.kept hb
  replace B := bthen B hb
  replace T := T.kept hb
  clear hb c0 c1 c2 c3 c4 c5 c6 c7 c8 c9 c10 c11 c12 c13 
  obtain ⟨_, c0, c1, c2, c3, c4, c5, c6, c7, c8, c9, c10, c11, c12, c13⟩ := id C
  go_wp2
  go_loopw [7, 8] (fun Z Y wr => ∃ k : Nat, k ≤ 12 ∧ Y = .int .i64 ((k : Int) + 1) ∧ One1 3 w1 wr Z k (fend c y)) (fun _ Y _ => (13 - intOf Y).toNat)
  case atStart => exact ⟨0, by omega, rfl, One1.start _ _ (Below.refl _ _)⟩
  case round =>
    obtain ⟨k, kM, rfl, X⟩ := hrel
    by_cases hlt : k < 12
    · obtain ⟨v, hv, cl⟩ := HL.out k hlt
      have HV := Lib.hid hv
      have kk : (k : Int) + 1 ≤ 12 := by omega
      clear hv
      go_wp2_with fail
      refine (cl _).mono ?_
      rintro e w9 ⟨rfl, hb⟩
      have X9 := X.kept hb
      clear X hb cl
      go_wp2_with (first
        | (at_builtin; refine wpList_append_own_at _ rfl _ _ 69 rfl w1.heap.size 3 i1 (.int .i64 0) 1 8 hunderN hi hz0 hz1 hz2 rfl (by decide) _ k (lst (fend c y) k) rfl (X9.a.alloc _) ⟨_, 0, none⟩ 1 1 [.int .i64 v] rfl rfl ?c1 ?c2 ?c3 ?c4 ?c5 ?m1))
      case c1 =>
        intro j u hj
        match j, hj with
        | 0, hj => simp at hj; subst hj; simp [Addr.add, go_sem]
      case c2 => intro u hu; simp at hu; rcases hu with rfl; rfl
      case c3 => unfold maxLen; omega
      case c4 => omega
      case c5 => have z1 := X9.below.size; simp; omega
      case m1 =>
        intro v3 wz hown3 hg3 _ hat
        rw [← HV.out] at hown3
        have X4 := X9.next hown3 hg3
        go_wp2
        go_roundw
        case rel => exact ⟨k + 1, by omega, by go_num, X4⟩
        case measure => simp [intOf]; omega
    · obtain rfl : k = 12 := by omega
      have kk : ¬ ((12 : Nat) : Int) + 1 ≤ 12 := by omega
      have Q := X.out (by omega)
      obtain ⟨g, cap, rfl, Q, le, _⟩ := Q
      have bb := bthen B X.below
      have Z : IntsOut w 12 (fend c y) (.returned (.tuple #[.slice (some ⟨g, 0, none⟩) 12 cap, .int .i64 0])) wr := ⟨g, cap, rfl, Q, by omega, bb⟩
      have HZ := Lib.hid Z
      clear Z Q X bb
      go_wp2
      exact bodyPost_ret (v := .tuple #[.slice (some ⟨g, 0, none⟩) 12 cap, .int .i64 0]) (by simp [results, Tryz.results44, go_sem]) rfl HZ.out

set_option maxRecDepth 100000 in
theorem rends_month (c : CalZ) (y : Int) (n : Nat) (w : World) (ok : CalOk c) (y0 : 1601 ≤ y) (y1 : y ≤ 9997) (hn : (n : Int) = per c) (K : ChkSays c) (hm : c.nm.size ≤ maxLen) (T : FTab w) (sh : c.sh = 5) :
    Calls Tryz.prog 44 #[.agg #[.string c.nm, .int .i64 c.k, .int .i64 c.d, .int .i64 c.m, .int .i64 c.s, .int .i64 c.sh, .int .i64 c.p0, .int .i64 c.p1, .int .i64 c.p2, .int .i64 c.cy, .int .i64 c.ex, .int .i64 c.fi, .int .i64 c.la, .int .i64 c.po], .int .i64 y] w (IntsOut w n (fend c y)) := by
  obtain ⟨i1, hi, hz0, hz1, hz2⟩ := info_parts hinfoN
  have C := CalIn.new w c 24
  have B := balloc (Below.refl _ w) (.cells #[.string c.nm, .int .i64 c.k, .int .i64 c.d, .int .i64 c.m, .int .i64 c.s, .int .i64 c.sh, .int .i64 c.p0, .int .i64 c.p1, .int .i64 c.p2, .int .i64 c.cy, .int .i64 c.ex, .int .i64 c.fi, .int .i64 c.la, .int .i64 c.po] 24)
  replace T := T.alloc (.cells #[.string c.nm, .int .i64 c.k, .int .i64 c.d, .int .i64 c.m, .int .i64 c.s, .int .i64 c.sh, .int .i64 c.p0, .int .i64 c.p1, .int .i64 c.p2, .int .i64 c.cy, .int .i64 c.ex, .int .i64 c.fi, .int .i64 c.la, .int .i64 c.po] 24)
  have pb : per c = 12 := by
    rcases sh_cases ok.1 with ⟨s, e⟩ | ⟨_, e, _⟩ | ⟨_, s, _⟩
    · omega
    · exact e
    · exact absurd sh s
  obtain rfl : n = 12 := by omega
  have ct := fun w T => rtold15_any c y _ 0 w (.inl ⟨ok, y0, y1, rfl, rfl⟩) K T
  have z0 := pend_zero c y
  obtain ⟨s, hs⟩ : ∃ s, pend c y 0 + 1 = s := ⟨_, rfl⟩
  have cs := fun w => rStart_any c y s 0 w (.inl ⟨ok, y0, y1, by rw [← hs, z0], rfl⟩) K
  have HL : Hid (∀ k : Nat, k < 12 → ∃ Y M d q P v : Int, pend c y k = P ∧ fend c y k = v ∧ v = P + q ∧ 28 ≤ q ∧ q ≤ 31 ∧ 0 ≤ P ∧ P ≤ 3068036 ∧ pend c y ((k : Int) + 1) = v ∧ (∀ w, Calls Tryz.prog 82 #[.int .i64 (P + 1)] w fun e w' => e = .returned (.tuple #[.agg #[.int .i64 Y, .int .i64 M, .int .i64 d], .int .i64 0]) ∧ Below w.heap.size w w') ∧
      ∀ w, Calls Tryz.prog 83 #[.int .i64 Y, .int .i64 M] w fun e w' => e = .returned (.tuple #[.int .i64 q, .int .i64 0]) ∧ Below w.heap.size w w') :=
    Lib.hid (fun k hk => by
      obtain ⟨Y, M, d, q, h1, h2, h3, h4, h5⟩ := month_step (p := (k : Int) + 1) ok.1 sh y0 y1 (by omega) (by omega)
      rw [show (k : Int) + 1 - 1 = k by omega] at h1 h3
      have b0 := pend_bd ok.1 y0 y1 (p := k) (by omega) (by omega)
      exact ⟨Y, M, d, q, _, _, rfl, rfl, h3, h4, h5, b0.1, b0.2, rfl, fun w => Go.Proofs.YtjiifmdjhdhabaaGreatDoor.Cr.rOf_any _ Y M d 0 w h1, fun w => (Go.Proofs.YtjiifmdjhdhabaaGreatDoor.Cr.rLength_any Y M q 0 w h2).mono (by rintro e w2 ⟨rfl, rfl⟩; exact ⟨rfl, Below.refl _ _⟩)⟩)
  have s4 : (c.sh == 4) = false := beq_eq_false_iff_ne.2 (by omega)
  have s5 : (c.sh == 5) = true := beq_iff_eq.2 sh
  have HS := Lib.hid hs
  clear ok hn pb sh K z0 hs
  go_enter Tryz.func44, Tryz.ntmps44
  go_upto_region 1 with fail
  generalize w.alloc (.cells #[.string c.nm, .int .i64 c.k, .int .i64 c.d, .int .i64 c.m, .int .i64 c.s, .int .i64 c.sh, .int .i64 c.p0, .int .i64 c.p1, .int .i64 c.p2, .int .i64 c.cy, .int .i64 c.ex, .int .i64 c.fi, .int .i64 c.la, .int .i64 c.po] 24) = W0 at *
  obtain ⟨_, c0, c1, c2, c3, c4, c5, c6, c7, c8, c9, c10, c11, c12, c13⟩ := id C
  go_wp2_with fail
  refine (ct _ T).mono ?_
  rintro e w1 ⟨rfl, hb⟩
  replace C := C.kept hb
  replace B := bthen B hb
  replace T := T.kept hb
  clear hb c0 c1 c2 c3 c4 c5 c6 c7 c8 c9 c10 c11 c12 c13 
  obtain ⟨_, c0, c1, c2, c3, c4, c5, c6, c7, c8, c9, c10, c11, c12, c13⟩ := id C
  go_wp2_with fail
  refine (cs _).mono ?_
  rintro e w2 ⟨rfl, hb⟩
  replace C := C.kept hb
  replace B := bthen B hb
  replace T := T.kept hb
  clear hb c0 c1 c2 c3 c4 c5 c6 c7 c8 c9 c10 c11 c12 c13 
  obtain ⟨_, c0, c1, c2, c3, c4, c5, c6, c7, c8, c9, c10, c11, c12, c13⟩ := id C
  clear ct cs
  go_wp2
  go_loopw [7, 11, 58] (fun Z D Y wr => ∃ k : Nat, k ≤ 12 ∧ Y = .int .i64 (k : Int) ∧ D = .int .i64 (pend c y k + 1) ∧ One1 3 w2 wr Z k (fend c y)) (fun _ _ Y _ => 12 - (intOf Y).toNat)
  case atStart => exact ⟨0, by omega, rfl, by rw [← HS.out]; rfl, One1.start _ _ (Below.refl _ _)⟩
  case round =>
    obtain ⟨k, kM, rfl, rfl, X⟩ := hrel
    by_cases hlt : k < 12
    · obtain ⟨Y, M, d, q, P, v, hp, hv, hpq, q0, q1, P0, P1, hv2, co, cl⟩ := HL.out k hlt
      have HV := Lib.hid (And.intro hv hv2)
      rw [hp]
      have kk : (k : Int) < 12 := by omega
      obtain ⟨D2, e1⟩ : ∃ D2, P + 1 + q = D2 := ⟨_, rfl⟩
      have e2 : D2 - 1 = v := by omega
      have e3 : D2 = v + 1 := by omega
      have HE := Lib.hid e3
      have dd : 0 ≤ D2 ∧ D2 ≤ 3068099 := by omega
      clear hv hv2 hp hpq e3
      go_wp2_with fail
      refine (co _).mono ?_
      rintro e w9 ⟨rfl, hb⟩
      have X9 := (X.kept hb).alloc (.cells #[.int .i64 Y, .int .i64 M, .int .i64 d] 88)
      have V := Tri.new w9 (.int .i64 Y) (.int .i64 M) (.int .i64 d) 88
      clear X hb co
      go_upto_region 18 with fail
      generalize w9.alloc (.cells #[.int .i64 Y, .int .i64 M, .int .i64 d] 88) = W9 at *
      obtain ⟨_, v0, v1, v2, fv0, fv1, fv2⟩ := id V
      go_wp2_with fail
      refine (cl _).mono ?_
      rintro e w8 ⟨rfl, hb⟩
      replace X9 := X9.kept hb
      clear hb cl v0 v1 v2 fv0 fv1 fv2 V
      go_wp2_with (first
        | (at_builtin; refine wpList_append_own_at _ rfl _ _ 69 rfl w2.heap.size 3 i1 (.int .i64 0) 1 8 hunderN hi hz0 hz1 hz2 rfl (by decide) _ k (lst (fend c y) k) rfl (X9.a.alloc _) ⟨_, 0, none⟩ 1 1 [.int .i64 v] rfl rfl ?c1 ?c2 ?c3 ?c4 ?c5 ?m1))
      case c1 =>
        intro j u hj
        match j, hj with
        | 0, hj => simp at hj; subst hj; simp [Addr.add, go_sem]
      case c2 => intro u hu; simp at hu; rcases hu with rfl; rfl
      case c3 => unfold maxLen; omega
      case c4 => omega
      case c5 => have z1 := X9.below.size; simp; omega
      case m1 =>
        intro v3 wz hown3 hg3 _ hat
        rw [← HV.out.1] at hown3
        have X4 := X9.next hown3 hg3
        go_wp2
        go_roundw
        case rel => exact ⟨k + 1, by omega, by go_num, by rw [HE.out, ← HV.out.2]; rfl, X4⟩
        case measure => simp [intOf]; omega
    · obtain rfl : k = 12 := by omega
      have Q := X.out (by omega)
      obtain ⟨g, cap, rfl, Q, le, _⟩ := Q
      have bb := bthen B X.below
      have Z : IntsOut w 12 (fend c y) (.returned (.tuple #[.slice (some ⟨g, 0, none⟩) 12 cap, .int .i64 0])) wr := ⟨g, cap, rfl, Q, by omega, bb⟩
      have HZ := Lib.hid Z
      clear Z Q X bb
      go_wp2
      exact bodyPost_ret (v := .tuple #[.slice (some ⟨g, 0, none⟩) 12 cap, .int .i64 0]) (by simp [results, Tryz.results44, go_sem]) rfl HZ.out

set_option maxRecDepth 100000 in
theorem rends_cut1 (c : CalZ) (y : Int) (n : Nat) (w : World) (ok : CalOk c) (y0 : 1601 ≤ y) (y1 : y ≤ 9997) (hn : (n : Int) = per c) (K : ChkSays c) (hm : c.nm.size ≤ maxLen) (T : FTab w) (k6 : c.k ≠ 6) (cu : CutOk c) (sh : c.sh = 1) :
    Calls Tryz.prog 44 #[.agg #[.string c.nm, .int .i64 c.k, .int .i64 c.d, .int .i64 c.m, .int .i64 c.s, .int .i64 c.sh, .int .i64 c.p0, .int .i64 c.p1, .int .i64 c.p2, .int .i64 c.cy, .int .i64 c.ex, .int .i64 c.fi, .int .i64 c.la, .int .i64 c.po], .int .i64 y] w (IntsOut w n (fend c y)) := by
  obtain ⟨i1, hi, hz0, hz1, hz2⟩ := info_parts hinfoN
  have C := CalIn.new w c 24
  have B := balloc (Below.refl _ w) (.cells #[.string c.nm, .int .i64 c.k, .int .i64 c.d, .int .i64 c.m, .int .i64 c.s, .int .i64 c.sh, .int .i64 c.p0, .int .i64 c.p1, .int .i64 c.p2, .int .i64 c.cy, .int .i64 c.ex, .int .i64 c.fi, .int .i64 c.la, .int .i64 c.po] 24)
  replace T := T.alloc (.cells #[.string c.nm, .int .i64 c.k, .int .i64 c.d, .int .i64 c.m, .int .i64 c.s, .int .i64 c.sh, .int .i64 c.p0, .int .i64 c.p1, .int .i64 c.p2, .int .i64 c.cy, .int .i64 c.ex, .int .i64 c.fi, .int .i64 c.la, .int .i64 c.po] 24)
  have ct := fun w T => rtold15_any c y _ 0 w (.inl ⟨ok, y0, y1, rfl, rfl⟩) K T
  have z0 := pend_zero c y
  obtain ⟨s, hs⟩ : ∃ s, pend c y 0 + 1 = s := ⟨_, rfl⟩
  have cs := fun w => rStart_any c y s 0 w (.inl ⟨ok, y0, y1, by rw [← hs, z0], rfl⟩) K
  have cp := fun w T => Go.Proofs.YtjiifmdjhdhabaaGreatDoor.Hl.rPeriods_any c n 0 w (.inl ⟨ok, hn, rfl⟩) hm T
  have cw := fun w => rWeeks_any c y (nweeks c y) 0 w (.inl ⟨ok, k6, y0, y1, rfl, rfl⟩) K
  have nw := (nweeks_01 ok.1 k6 y0 (by omega)).1
  have pb := per_bd ok.1
  have n4 : c.sh ≠ 4 ∧ c.sh ≠ 5 := by omega
  obtain ⟨wk, hwk⟩ : ∃ wk, nweeks c y = wk := ⟨_, rfl⟩
  have HL : Hid (∀ k : Nat, k < n → ∃ P v q : Int, pend c y k = P ∧ fend c y k = v ∧ pend c y ((k : Int) + 1) = v ∧ pat c ((k : Int) + 1) = q ∧ 1 ≤ q ∧ q ≤ 5 ∧ 0 ≤ P ∧ P ≤ 3068036 ∧ 0 ≤ v ∧ v ≤ 3068036 ∧ ((((k : Int) + 1 == c.ex) = false ∧ v = P + 7 * q) ∨ (((k : Int) + 1 == c.ex) = true ∧ (wk == 53) = false ∧ v = P + 7 * q) ∨ (((k : Int) + 1 == c.ex) = true ∧ (wk == 53) = true ∧ v = P + 7 * (q + 1)))) :=
    Lib.hid (fun k hk => by
      obtain ⟨h3, h4, h5⟩ := cut_step (p := (k : Int) + 1) ok.1 n4.1 n4.2 y0 y1 (by omega) (by omega)
      rw [show (k : Int) + 1 - 1 = k by omega] at h3
      have b0 := pend_bd ok.1 y0 y1 (p := k) (by omega) (by omega)
      have b1 := pend_bd ok.1 y0 y1 (p := (k : Int) + 1) (by omega) (by omega)
      refine ⟨_, _, _, rfl, rfl, rfl, rfl, h4, h5, b0.1, b0.2, b1.1, b1.2, ?_⟩
      unfold wkp at h3
      rw [hwk] at h3 nw
      by_cases q1 : (k : Int) + 1 = c.ex
      · rw [if_pos q1] at h3
        by_cases q2 : wk = 53
        · exact .inr (.inr ⟨beq_iff_eq.2 q1, beq_iff_eq.2 q2, by show pend c y ((k : Int) + 1) = _; omega⟩)
        · exact .inr (.inl ⟨beq_iff_eq.2 q1, beq_eq_false_iff_ne.2 q2, by show pend c y ((k : Int) + 1) = _; omega⟩)
      · rw [if_neg q1] at h3
        exact .inl ⟨beq_eq_false_iff_ne.2 q1, by show pend c y ((k : Int) + 1) = _; omega⟩)
  rw [hwk] at cw
  have s4 : (c.sh == 4) = false := beq_eq_false_iff_ne.2 n4.1
  have s5 : (c.sh == 5) = false := beq_eq_false_iff_ne.2 n4.2
  have s1 : (c.sh == 1) = true := beq_iff_eq.2 sh
  have s3 : (c.sh == 3) = false := beq_eq_false_iff_ne.2 (by omega)
  have HP : Hid (∀ k : Nat, ∃ j : Nat, IntKind.i64.wrap (IntKind.i64.wrap ((k : Int) + 1 - 1)) = IntKind.i64.wrap (IntKind.i64.wrap ((k : Int) + 1 - 1)) ∧ j < 3 ∧ (k : Int) % 3 = (j : Int) ∧ ((j = 0 ∧ pat c ((k : Int) + 1) = c.p0) ∨ (j = 1 ∧ pat c ((k : Int) + 1) = c.p1) ∨ (j = 2 ∧ pat c ((k : Int) + 1) = c.p2))) := Lib.hid (fun k => by
    refine ⟨k % 3, rfl, by omega, by omega, ?_⟩
    unfold pat
    rw [if_pos sh, show (k : Int) + 1 - 1 = k by omega]
    have : k % 3 = 0 ∨ k % 3 = 1 ∨ k % 3 = 2 := by omega
    rcases this with e | e | e
    · exact .inl ⟨e, by rw [if_pos (by omega)]⟩
    · exact .inr (.inl ⟨e, by rw [if_neg (by omega), if_pos (by omega)]⟩)
    · exact .inr (.inr ⟨e, by rw [if_neg (by omega), if_neg (by omega)]⟩))
  clear sh
  have HS := Lib.hid hs
  have n52 : (n : Int) ≤ 52 := by omega
  have n12 : (12 : Int) ≤ (n : Int) := by omega
  clear hn pb K z0 hs nw ok k6 hwk n4 cu
  go_enter Tryz.func44, Tryz.ntmps44
  go_upto_region 1 with fail
  generalize w.alloc (.cells #[.string c.nm, .int .i64 c.k, .int .i64 c.d, .int .i64 c.m, .int .i64 c.s, .int .i64 c.sh, .int .i64 c.p0, .int .i64 c.p1, .int .i64 c.p2, .int .i64 c.cy, .int .i64 c.ex, .int .i64 c.fi, .int .i64 c.la, .int .i64 c.po] 24) = W0 at *
  obtain ⟨_, c0, c1, c2, c3, c4, c5, c6, c7, c8, c9, c10, c11, c12, c13⟩ := id C
  go_wp2_with fail
  refine (ct _ T).mono ?_
  rintro e w1 ⟨rfl, hb⟩
  replace C := C.kept hb
  replace B := bthen B hb
  replace T := T.kept hb
  clear hb c0 c1 c2 c3 c4 c5 c6 c7 c8 c9 c10 c11 c12 c13 
  obtain ⟨_, c0, c1, c2, c3, c4, c5, c6, c7, c8, c9, c10, c11, c12, c13⟩ := id C
  go_wp2_with fail
  refine (cp _ T).mono ?_
  rintro e w2 ⟨rfl, hb⟩
  replace C := C.kept hb
  replace B := bthen B hb
  replace T := T.kept hb
  clear hb c0 c1 c2 c3 c4 c5 c6 c7 c8 c9 c10 c11 c12 c13 
  obtain ⟨_, c0, c1, c2, c3, c4, c5, c6, c7, c8, c9, c10, c11, c12, c13⟩ := id C
  go_wp2_with fail
  refine (cw _).mono ?_
  rintro e w3 ⟨rfl, hb⟩
  replace C := C.kept hb
  replace B := bthen B hb
  replace T := T.kept hb
  clear hb c0 c1 c2 c3 c4 c5 c6 c7 c8 c9 c10 c11 c12 c13 
  obtain ⟨_, c0, c1, c2, c3, c4, c5, c6, c7, c8, c9, c10, c11, c12, c13⟩ := id C
  go_wp2_with fail
  refine (cs _).mono ?_
  rintro e w4 ⟨rfl, hb⟩
  replace C := C.kept hb
  replace B := bthen B hb
  replace T := T.kept hb
  clear hb c0 c1 c2 c3 c4 c5 c6 c7 c8 c9 c10 c11 c12 c13 
  obtain ⟨_, c0, c1, c2, c3, c4, c5, c6, c7, c8, c9, c10, c11, c12, c13⟩ := id C
  clear ct cs cp cw
  clear c0 c1 c2 c3 c4 c5 c6 c7 c8 c9 c10 c11 c12 c13 
  have HC := C
  obtain ⟨_, c0, c1, c2, c3, c4, c5, c6, c7, c8, c9, c10, c11, c12, c13⟩ := id C
  go_wp2
  clear c0 c1 c2 c3 c4 c5 c6 c7 c8 c9 c10 c11 c12 c13
  go_loopw [7, 21, 23] (fun Z D Y wr => ∃ k : Nat, k ≤ n ∧ Y = .int .i64 ((k : Int) + 1) ∧ D = .int .i64 (pend c y k + 1) ∧ One1 3 w4 wr Z k (fend c y)) (fun _ _ Y _ => ((n : Int) + 1 - intOf Y).toNat)
  case atStart => exact ⟨0, by omega, rfl, by rw [← HS.out]; rfl, One1.start _ _ (Below.refl _ _)⟩
  case round =>
    obtain ⟨k, kM, rfl, rfl, X⟩ := hrel
    have C2 := C.kept X.below
    by_cases hlt : k < n
    · obtain ⟨P, v, q, hp, hv, hv2, hq, q0, q1, P0, P1, v0, v1, OO⟩ := HL.out k hlt
      have HV := Lib.hid (And.intro hv hv2)
      rw [hp]
      have kk : (k : Int) + 1 ≤ (n : Int) := by omega
      obtain ⟨_, c0, c1, c2, c3, c4, c5, c6, c7, c8, c9, c10, c11, c12, c13⟩ := id C2
      obtain ⟨j, _, j3, hj, hjc⟩ := HP.out k
      rw [hq] at hjc
      have cj : wr.cell? ⟨w.heap.size, 6 + j, none⟩ = some (.int .i64 q) := by
        rcases hjc with ⟨rfl, rfl⟩ | ⟨rfl, rfl⟩ | ⟨rfl, rfl⟩
        · exact c6
        · exact c7
        · exact c8
      have hr1 : ((k : Int) + 1 - 1).tmod 3 = (j : Int) := by rw [show (k : Int) + 1 - 1 = k by omega, Int.tmod_eq_emod_of_nonneg (by omega)]; exact hj
      have hr2 : (k : Int).tmod 3 = (j : Int) := by rw [Int.tmod_eq_emod_of_nonneg (by omega)]; exact hj
      have j33 : (j : Int) < 3 := by omega
      clear hjc hq
      clear hv hv2 hp C2
      rcases OO with ⟨o1, hpq⟩ | ⟨o1, o2, hpq⟩ | ⟨o1, o2, hpq⟩
      · obtain ⟨D2, e1⟩ : ∃ D2, P + 1 + 7 * (q) = D2 := ⟨_, rfl⟩
        have e2 : D2 - 1 = v := by omega
        have HE : Hid (D2 = v + 1) := Lib.hid (by omega)
        have dd : 0 ≤ D2 ∧ D2 ≤ 3068099 := by omega
        clear hpq
        go_wp2_with (first
          | (at_builtin; refine wpList_append_own_at _ rfl _ _ 69 rfl w4.heap.size 3 i1 (.int .i64 0) 1 8 hunderN hi hz0 hz1 hz2 rfl (by decide) _ k (lst (fend c y) k) rfl (X.a.alloc _) ⟨_, 0, none⟩ 1 1 [.int .i64 v] rfl rfl ?c1 ?c2 ?c3 ?c4 ?c5 ?m1))
        case c1 =>
          intro j u hj
          match j, hj with
          | 0, hj => simp at hj; subst hj; simp [Addr.add, go_sem]
        case c2 => intro u hu; simp at hu; rcases hu with rfl; rfl
        case c3 => unfold maxLen; omega
        case c4 => omega
        case c5 => have z1 := X.below.size; simp; omega
        case m1 =>
          intro v3 wz hown3 hg3 _ hat
          rw [← HV.out.1] at hown3
          have X4 := X.next hown3 hg3
          go_wp2
          go_roundw
          case rel => exact ⟨k + 1, by omega, by go_num, by rw [HE.out, ← HV.out.2]; rfl, X4⟩
          case measure => simp [intOf]; omega
      · obtain ⟨D2, e1⟩ : ∃ D2, P + 1 + 7 * (q) = D2 := ⟨_, rfl⟩
        have e2 : D2 - 1 = v := by omega
        have HE : Hid (D2 = v + 1) := Lib.hid (by omega)
        have dd : 0 ≤ D2 ∧ D2 ≤ 3068099 := by omega
        clear hpq
        go_wp2_with (first
          | (at_builtin; refine wpList_append_own_at _ rfl _ _ 69 rfl w4.heap.size 3 i1 (.int .i64 0) 1 8 hunderN hi hz0 hz1 hz2 rfl (by decide) _ k (lst (fend c y) k) rfl (X.a.alloc _) ⟨_, 0, none⟩ 1 1 [.int .i64 v] rfl rfl ?c1 ?c2 ?c3 ?c4 ?c5 ?m1))
        case c1 =>
          intro j u hj
          match j, hj with
          | 0, hj => simp at hj; subst hj; simp [Addr.add, go_sem]
        case c2 => intro u hu; simp at hu; rcases hu with rfl; rfl
        case c3 => unfold maxLen; omega
        case c4 => omega
        case c5 => have z1 := X.below.size; simp; omega
        case m1 =>
          intro v3 wz hown3 hg3 _ hat
          rw [← HV.out.1] at hown3
          have X4 := X.next hown3 hg3
          go_wp2
          go_roundw
          case rel => exact ⟨k + 1, by omega, by go_num, by rw [HE.out, ← HV.out.2]; rfl, X4⟩
          case measure => simp [intOf]; omega
      · obtain ⟨D2, e1⟩ : ∃ D2, P + 1 + 7 * (q + 1) = D2 := ⟨_, rfl⟩
        have e2 : D2 - 1 = v := by omega
        have HE : Hid (D2 = v + 1) := Lib.hid (by omega)
        have dd : 0 ≤ D2 ∧ D2 ≤ 3068099 := by omega
        clear hpq
        go_wp2_with (first
          | (at_builtin; refine wpList_append_own_at _ rfl _ _ 69 rfl w4.heap.size 3 i1 (.int .i64 0) 1 8 hunderN hi hz0 hz1 hz2 rfl (by decide) _ k (lst (fend c y) k) rfl (X.a.alloc _) ⟨_, 0, none⟩ 1 1 [.int .i64 v] rfl rfl ?c1 ?c2 ?c3 ?c4 ?c5 ?m1))
        case c1 =>
          intro j u hj
          match j, hj with
          | 0, hj => simp at hj; subst hj; simp [Addr.add, go_sem]
        case c2 => intro u hu; simp at hu; rcases hu with rfl; rfl
        case c3 => unfold maxLen; omega
        case c4 => omega
        case c5 => have z1 := X.below.size; simp; omega
        case m1 =>
          intro v3 wz hown3 hg3 _ hat
          rw [← HV.out.1] at hown3
          have X4 := X.next hown3 hg3
          go_wp2
          go_roundw
          case rel => exact ⟨k + 1, by omega, by go_num, by rw [HE.out, ← HV.out.2]; rfl, X4⟩
          case measure => simp [intOf]; omega
    · obtain rfl : k = n := by omega
      have kk : ¬ (k : Int) + 1 ≤ (k : Int) := by omega
      have Q := X.out (by omega)
      obtain ⟨g, cap, rfl, Q, le, _⟩ := Q
      have bb := bthen B X.below
      have Z : IntsOut w k (fend c y) (.returned (.tuple #[.slice (some ⟨g, 0, none⟩) k cap, .int .i64 0])) wr := ⟨g, cap, rfl, Q, by omega, bb⟩
      have HZ := Lib.hid Z
      clear Z Q X bb
      go_wp2
      exact bodyPost_ret (v := .tuple #[.slice (some ⟨g, 0, none⟩) k cap, .int .i64 0]) (by simp [results, Tryz.results44, go_sem]) rfl HZ.out

set_option maxRecDepth 100000 in
theorem rends_cut2 (c : CalZ) (y : Int) (n : Nat) (w : World) (ok : CalOk c) (y0 : 1601 ≤ y) (y1 : y ≤ 9997) (hn : (n : Int) = per c) (K : ChkSays c) (hm : c.nm.size ≤ maxLen) (T : FTab w) (k6 : c.k ≠ 6) (cu : CutOk c) (sh : c.sh = 2) :
    Calls Tryz.prog 44 #[.agg #[.string c.nm, .int .i64 c.k, .int .i64 c.d, .int .i64 c.m, .int .i64 c.s, .int .i64 c.sh, .int .i64 c.p0, .int .i64 c.p1, .int .i64 c.p2, .int .i64 c.cy, .int .i64 c.ex, .int .i64 c.fi, .int .i64 c.la, .int .i64 c.po], .int .i64 y] w (IntsOut w n (fend c y)) := by
  obtain ⟨i1, hi, hz0, hz1, hz2⟩ := info_parts hinfoN
  have C := CalIn.new w c 24
  have B := balloc (Below.refl _ w) (.cells #[.string c.nm, .int .i64 c.k, .int .i64 c.d, .int .i64 c.m, .int .i64 c.s, .int .i64 c.sh, .int .i64 c.p0, .int .i64 c.p1, .int .i64 c.p2, .int .i64 c.cy, .int .i64 c.ex, .int .i64 c.fi, .int .i64 c.la, .int .i64 c.po] 24)
  replace T := T.alloc (.cells #[.string c.nm, .int .i64 c.k, .int .i64 c.d, .int .i64 c.m, .int .i64 c.s, .int .i64 c.sh, .int .i64 c.p0, .int .i64 c.p1, .int .i64 c.p2, .int .i64 c.cy, .int .i64 c.ex, .int .i64 c.fi, .int .i64 c.la, .int .i64 c.po] 24)
  have ct := fun w T => rtold15_any c y _ 0 w (.inl ⟨ok, y0, y1, rfl, rfl⟩) K T
  have z0 := pend_zero c y
  obtain ⟨s, hs⟩ : ∃ s, pend c y 0 + 1 = s := ⟨_, rfl⟩
  have cs := fun w => rStart_any c y s 0 w (.inl ⟨ok, y0, y1, by rw [← hs, z0], rfl⟩) K
  have cp := fun w T => Go.Proofs.YtjiifmdjhdhabaaGreatDoor.Hl.rPeriods_any c n 0 w (.inl ⟨ok, hn, rfl⟩) hm T
  have cw := fun w => rWeeks_any c y (nweeks c y) 0 w (.inl ⟨ok, k6, y0, y1, rfl, rfl⟩) K
  have nw := (nweeks_01 ok.1 k6 y0 (by omega)).1
  have pb := per_bd ok.1
  have n4 : c.sh ≠ 4 ∧ c.sh ≠ 5 := by omega
  obtain ⟨wk, hwk⟩ : ∃ wk, nweeks c y = wk := ⟨_, rfl⟩
  have HL : Hid (∀ k : Nat, k < n → ∃ P v q : Int, pend c y k = P ∧ fend c y k = v ∧ pend c y ((k : Int) + 1) = v ∧ pat c ((k : Int) + 1) = q ∧ 1 ≤ q ∧ q ≤ 5 ∧ 0 ≤ P ∧ P ≤ 3068036 ∧ 0 ≤ v ∧ v ≤ 3068036 ∧ ((((k : Int) + 1 == c.ex) = false ∧ v = P + 7 * q) ∨ (((k : Int) + 1 == c.ex) = true ∧ (wk == 53) = false ∧ v = P + 7 * q) ∨ (((k : Int) + 1 == c.ex) = true ∧ (wk == 53) = true ∧ v = P + 7 * (q + 1)))) :=
    Lib.hid (fun k hk => by
      obtain ⟨h3, h4, h5⟩ := cut_step (p := (k : Int) + 1) ok.1 n4.1 n4.2 y0 y1 (by omega) (by omega)
      rw [show (k : Int) + 1 - 1 = k by omega] at h3
      have b0 := pend_bd ok.1 y0 y1 (p := k) (by omega) (by omega)
      have b1 := pend_bd ok.1 y0 y1 (p := (k : Int) + 1) (by omega) (by omega)
      refine ⟨_, _, _, rfl, rfl, rfl, rfl, h4, h5, b0.1, b0.2, b1.1, b1.2, ?_⟩
      unfold wkp at h3
      rw [hwk] at h3 nw
      by_cases q1 : (k : Int) + 1 = c.ex
      · rw [if_pos q1] at h3
        by_cases q2 : wk = 53
        · exact .inr (.inr ⟨beq_iff_eq.2 q1, beq_iff_eq.2 q2, by show pend c y ((k : Int) + 1) = _; omega⟩)
        · exact .inr (.inl ⟨beq_iff_eq.2 q1, beq_eq_false_iff_ne.2 q2, by show pend c y ((k : Int) + 1) = _; omega⟩)
      · rw [if_neg q1] at h3
        exact .inl ⟨beq_eq_false_iff_ne.2 q1, by show pend c y ((k : Int) + 1) = _; omega⟩)
  rw [hwk] at cw
  have s4 : (c.sh == 4) = false := beq_eq_false_iff_ne.2 n4.1
  have s5 : (c.sh == 5) = false := beq_eq_false_iff_ne.2 n4.2
  have s1 : (c.sh == 1) = false := beq_eq_false_iff_ne.2 (by omega)
  have s3 : (c.sh == 3) = false := beq_eq_false_iff_ne.2 (by omega)
  have HP : Hid (∀ p : Int, pat c p = 4) := Lib.hid (fun p => by unfold pat; rw [if_neg (by omega), if_pos sh])
  clear sh
  have HS := Lib.hid hs
  have n52 : (n : Int) ≤ 52 := by omega
  have n12 : (12 : Int) ≤ (n : Int) := by omega
  clear hn pb K z0 hs nw ok k6 hwk n4 cu
  go_enter Tryz.func44, Tryz.ntmps44
  go_upto_region 1 with fail
  generalize w.alloc (.cells #[.string c.nm, .int .i64 c.k, .int .i64 c.d, .int .i64 c.m, .int .i64 c.s, .int .i64 c.sh, .int .i64 c.p0, .int .i64 c.p1, .int .i64 c.p2, .int .i64 c.cy, .int .i64 c.ex, .int .i64 c.fi, .int .i64 c.la, .int .i64 c.po] 24) = W0 at *
  obtain ⟨_, c0, c1, c2, c3, c4, c5, c6, c7, c8, c9, c10, c11, c12, c13⟩ := id C
  go_wp2_with fail
  refine (ct _ T).mono ?_
  rintro e w1 ⟨rfl, hb⟩
  replace C := C.kept hb
  replace B := bthen B hb
  replace T := T.kept hb
  clear hb c0 c1 c2 c3 c4 c5 c6 c7 c8 c9 c10 c11 c12 c13 
  obtain ⟨_, c0, c1, c2, c3, c4, c5, c6, c7, c8, c9, c10, c11, c12, c13⟩ := id C
  go_wp2_with fail
  refine (cp _ T).mono ?_
  rintro e w2 ⟨rfl, hb⟩
  replace C := C.kept hb
  replace B := bthen B hb
  replace T := T.kept hb
  clear hb c0 c1 c2 c3 c4 c5 c6 c7 c8 c9 c10 c11 c12 c13 
  obtain ⟨_, c0, c1, c2, c3, c4, c5, c6, c7, c8, c9, c10, c11, c12, c13⟩ := id C
  go_wp2_with fail
  refine (cw _).mono ?_
  rintro e w3 ⟨rfl, hb⟩
  replace C := C.kept hb
  replace B := bthen B hb
  replace T := T.kept hb
  clear hb c0 c1 c2 c3 c4 c5 c6 c7 c8 c9 c10 c11 c12 c13 
  obtain ⟨_, c0, c1, c2, c3, c4, c5, c6, c7, c8, c9, c10, c11, c12, c13⟩ := id C
  go_wp2_with fail
  refine (cs _).mono ?_
  rintro e w4 ⟨rfl, hb⟩
  replace C := C.kept hb
  replace B := bthen B hb
  replace T := T.kept hb
  clear hb c0 c1 c2 c3 c4 c5 c6 c7 c8 c9 c10 c11 c12 c13 
  obtain ⟨_, c0, c1, c2, c3, c4, c5, c6, c7, c8, c9, c10, c11, c12, c13⟩ := id C
  clear ct cs cp cw
  clear c0 c1 c2 c3 c4 c5 c6 c7 c8 c9 c10 c11 c12 c13 
  have HC := C
  obtain ⟨_, c0, c1, c2, c3, c4, c5, c6, c7, c8, c9, c10, c11, c12, c13⟩ := id C
  go_wp2
  clear c0 c1 c2 c3 c4 c5 c6 c7 c8 c9 c10 c11 c12 c13
  go_loopw [7, 21, 23] (fun Z D Y wr => ∃ k : Nat, k ≤ n ∧ Y = .int .i64 ((k : Int) + 1) ∧ D = .int .i64 (pend c y k + 1) ∧ One1 3 w4 wr Z k (fend c y)) (fun _ _ Y _ => ((n : Int) + 1 - intOf Y).toNat)
  case atStart => exact ⟨0, by omega, rfl, by rw [← HS.out]; rfl, One1.start _ _ (Below.refl _ _)⟩
  case round =>
    obtain ⟨k, kM, rfl, rfl, X⟩ := hrel
    have C2 := C.kept X.below
    by_cases hlt : k < n
    · obtain ⟨P, v, q, hp, hv, hv2, hq, q0, q1, P0, P1, v0, v1, OO⟩ := HL.out k hlt
      have HV := Lib.hid (And.intro hv hv2)
      rw [hp]
      have kk : (k : Int) + 1 ≤ (n : Int) := by omega
      obtain ⟨_, c0, c1, c2, c3, c4, c5, c6, c7, c8, c9, c10, c11, c12, c13⟩ := id C2
      have hq4 := HP.out ((k : Int) + 1)
      rw [hq] at hq4
      subst hq4
      clear hq
      clear hv hv2 hp C2
      rcases OO with ⟨o1, hpq⟩ | ⟨o1, o2, hpq⟩ | ⟨o1, o2, hpq⟩
      · obtain ⟨D2, e1⟩ : ∃ D2, P + 1 + 28 = D2 := ⟨_, rfl⟩
        have e2 : D2 - 1 = v := by omega
        have HE : Hid (D2 = v + 1) := Lib.hid (by omega)
        have dd : 0 ≤ D2 ∧ D2 ≤ 3068099 := by omega
        clear hpq
        go_wp2_with (first
          | (at_builtin; refine wpList_append_own_at _ rfl _ _ 69 rfl w4.heap.size 3 i1 (.int .i64 0) 1 8 hunderN hi hz0 hz1 hz2 rfl (by decide) _ k (lst (fend c y) k) rfl (X.a.alloc _) ⟨_, 0, none⟩ 1 1 [.int .i64 v] rfl rfl ?c1 ?c2 ?c3 ?c4 ?c5 ?m1))
        case c1 =>
          intro j u hj
          match j, hj with
          | 0, hj => simp at hj; subst hj; simp [Addr.add, go_sem]
        case c2 => intro u hu; simp at hu; rcases hu with rfl; rfl
        case c3 => unfold maxLen; omega
        case c4 => omega
        case c5 => have z1 := X.below.size; simp; omega
        case m1 =>
          intro v3 wz hown3 hg3 _ hat
          rw [← HV.out.1] at hown3
          have X4 := X.next hown3 hg3
          go_wp2
          go_roundw
          case rel => exact ⟨k + 1, by omega, by go_num, by rw [HE.out, ← HV.out.2]; rfl, X4⟩
          case measure => simp [intOf]; omega
      · obtain ⟨D2, e1⟩ : ∃ D2, P + 1 + 28 = D2 := ⟨_, rfl⟩
        have e2 : D2 - 1 = v := by omega
        have HE : Hid (D2 = v + 1) := Lib.hid (by omega)
        have dd : 0 ≤ D2 ∧ D2 ≤ 3068099 := by omega
        clear hpq
        go_wp2_with (first
          | (at_builtin; refine wpList_append_own_at _ rfl _ _ 69 rfl w4.heap.size 3 i1 (.int .i64 0) 1 8 hunderN hi hz0 hz1 hz2 rfl (by decide) _ k (lst (fend c y) k) rfl (X.a.alloc _) ⟨_, 0, none⟩ 1 1 [.int .i64 v] rfl rfl ?c1 ?c2 ?c3 ?c4 ?c5 ?m1))
        case c1 =>
          intro j u hj
          match j, hj with
          | 0, hj => simp at hj; subst hj; simp [Addr.add, go_sem]
        case c2 => intro u hu; simp at hu; rcases hu with rfl; rfl
        case c3 => unfold maxLen; omega
        case c4 => omega
        case c5 => have z1 := X.below.size; simp; omega
        case m1 =>
          intro v3 wz hown3 hg3 _ hat
          rw [← HV.out.1] at hown3
          have X4 := X.next hown3 hg3
          go_wp2
          go_roundw
          case rel => exact ⟨k + 1, by omega, by go_num, by rw [HE.out, ← HV.out.2]; rfl, X4⟩
          case measure => simp [intOf]; omega
      · obtain ⟨D2, e1⟩ : ∃ D2, P + 1 + 35 = D2 := ⟨_, rfl⟩
        have e2 : D2 - 1 = v := by omega
        have HE : Hid (D2 = v + 1) := Lib.hid (by omega)
        have dd : 0 ≤ D2 ∧ D2 ≤ 3068099 := by omega
        clear hpq
        go_wp2_with (first
          | (at_builtin; refine wpList_append_own_at _ rfl _ _ 69 rfl w4.heap.size 3 i1 (.int .i64 0) 1 8 hunderN hi hz0 hz1 hz2 rfl (by decide) _ k (lst (fend c y) k) rfl (X.a.alloc _) ⟨_, 0, none⟩ 1 1 [.int .i64 v] rfl rfl ?c1 ?c2 ?c3 ?c4 ?c5 ?m1))
        case c1 =>
          intro j u hj
          match j, hj with
          | 0, hj => simp at hj; subst hj; simp [Addr.add, go_sem]
        case c2 => intro u hu; simp at hu; rcases hu with rfl; rfl
        case c3 => unfold maxLen; omega
        case c4 => omega
        case c5 => have z1 := X.below.size; simp; omega
        case m1 =>
          intro v3 wz hown3 hg3 _ hat
          rw [← HV.out.1] at hown3
          have X4 := X.next hown3 hg3
          go_wp2
          go_roundw
          case rel => exact ⟨k + 1, by omega, by go_num, by rw [HE.out, ← HV.out.2]; rfl, X4⟩
          case measure => simp [intOf]; omega
    · obtain rfl : k = n := by omega
      have kk : ¬ (k : Int) + 1 ≤ (k : Int) := by omega
      have Q := X.out (by omega)
      obtain ⟨g, cap, rfl, Q, le, _⟩ := Q
      have bb := bthen B X.below
      have Z : IntsOut w k (fend c y) (.returned (.tuple #[.slice (some ⟨g, 0, none⟩) k cap, .int .i64 0])) wr := ⟨g, cap, rfl, Q, by omega, bb⟩
      have HZ := Lib.hid Z
      clear Z Q X bb
      go_wp2
      exact bodyPost_ret (v := .tuple #[.slice (some ⟨g, 0, none⟩) k cap, .int .i64 0]) (by simp [results, Tryz.results44, go_sem]) rfl HZ.out

set_option maxRecDepth 100000 in
theorem rends_cut3 (c : CalZ) (y : Int) (n : Nat) (w : World) (ok : CalOk c) (y0 : 1601 ≤ y) (y1 : y ≤ 9997) (hn : (n : Int) = per c) (K : ChkSays c) (hm : c.nm.size ≤ maxLen) (T : FTab w) (k6 : c.k ≠ 6) (cu : CutOk c) (sh : c.sh = 3) :
    Calls Tryz.prog 44 #[.agg #[.string c.nm, .int .i64 c.k, .int .i64 c.d, .int .i64 c.m, .int .i64 c.s, .int .i64 c.sh, .int .i64 c.p0, .int .i64 c.p1, .int .i64 c.p2, .int .i64 c.cy, .int .i64 c.ex, .int .i64 c.fi, .int .i64 c.la, .int .i64 c.po], .int .i64 y] w (IntsOut w n (fend c y)) := by
  obtain ⟨i1, hi, hz0, hz1, hz2⟩ := info_parts hinfoN
  have C := CalIn.new w c 24
  have B := balloc (Below.refl _ w) (.cells #[.string c.nm, .int .i64 c.k, .int .i64 c.d, .int .i64 c.m, .int .i64 c.s, .int .i64 c.sh, .int .i64 c.p0, .int .i64 c.p1, .int .i64 c.p2, .int .i64 c.cy, .int .i64 c.ex, .int .i64 c.fi, .int .i64 c.la, .int .i64 c.po] 24)
  replace T := T.alloc (.cells #[.string c.nm, .int .i64 c.k, .int .i64 c.d, .int .i64 c.m, .int .i64 c.s, .int .i64 c.sh, .int .i64 c.p0, .int .i64 c.p1, .int .i64 c.p2, .int .i64 c.cy, .int .i64 c.ex, .int .i64 c.fi, .int .i64 c.la, .int .i64 c.po] 24)
  have ct := fun w T => rtold15_any c y _ 0 w (.inl ⟨ok, y0, y1, rfl, rfl⟩) K T
  have z0 := pend_zero c y
  obtain ⟨s, hs⟩ : ∃ s, pend c y 0 + 1 = s := ⟨_, rfl⟩
  have cs := fun w => rStart_any c y s 0 w (.inl ⟨ok, y0, y1, by rw [← hs, z0], rfl⟩) K
  have cp := fun w T => Go.Proofs.YtjiifmdjhdhabaaGreatDoor.Hl.rPeriods_any c n 0 w (.inl ⟨ok, hn, rfl⟩) hm T
  have cw := fun w => rWeeks_any c y (nweeks c y) 0 w (.inl ⟨ok, k6, y0, y1, rfl, rfl⟩) K
  have nw := (nweeks_01 ok.1 k6 y0 (by omega)).1
  have pb := per_bd ok.1
  have n4 : c.sh ≠ 4 ∧ c.sh ≠ 5 := by omega
  obtain ⟨wk, hwk⟩ : ∃ wk, nweeks c y = wk := ⟨_, rfl⟩
  have HL : Hid (∀ k : Nat, k < n → ∃ P v q : Int, pend c y k = P ∧ fend c y k = v ∧ pend c y ((k : Int) + 1) = v ∧ pat c ((k : Int) + 1) = q ∧ 1 ≤ q ∧ q ≤ 5 ∧ 0 ≤ P ∧ P ≤ 3068036 ∧ 0 ≤ v ∧ v ≤ 3068036 ∧ ((((k : Int) + 1 == c.ex) = false ∧ v = P + 7 * q) ∨ (((k : Int) + 1 == c.ex) = true ∧ (wk == 53) = false ∧ v = P + 7 * q) ∨ (((k : Int) + 1 == c.ex) = true ∧ (wk == 53) = true ∧ v = P + 7 * (q + 1)))) :=
    Lib.hid (fun k hk => by
      obtain ⟨h3, h4, h5⟩ := cut_step (p := (k : Int) + 1) ok.1 n4.1 n4.2 y0 y1 (by omega) (by omega)
      rw [show (k : Int) + 1 - 1 = k by omega] at h3
      have b0 := pend_bd ok.1 y0 y1 (p := k) (by omega) (by omega)
      have b1 := pend_bd ok.1 y0 y1 (p := (k : Int) + 1) (by omega) (by omega)
      refine ⟨_, _, _, rfl, rfl, rfl, rfl, h4, h5, b0.1, b0.2, b1.1, b1.2, ?_⟩
      unfold wkp at h3
      rw [hwk] at h3 nw
      by_cases q1 : (k : Int) + 1 = c.ex
      · rw [if_pos q1] at h3
        by_cases q2 : wk = 53
        · exact .inr (.inr ⟨beq_iff_eq.2 q1, beq_iff_eq.2 q2, by show pend c y ((k : Int) + 1) = _; omega⟩)
        · exact .inr (.inl ⟨beq_iff_eq.2 q1, beq_eq_false_iff_ne.2 q2, by show pend c y ((k : Int) + 1) = _; omega⟩)
      · rw [if_neg q1] at h3
        exact .inl ⟨beq_eq_false_iff_ne.2 q1, by show pend c y ((k : Int) + 1) = _; omega⟩)
  rw [hwk] at cw
  have s4 : (c.sh == 4) = false := beq_eq_false_iff_ne.2 n4.1
  have s5 : (c.sh == 5) = false := beq_eq_false_iff_ne.2 n4.2
  have s1 : (c.sh == 1) = false := beq_eq_false_iff_ne.2 (by omega)
  have s3 : (c.sh == 3) = true := beq_iff_eq.2 sh
  have HP : Hid (∀ p : Int, pat c p = c.cy) := Lib.hid (fun p => by unfold pat; rw [if_neg (by omega), if_neg (by omega)])
  clear sh
  have HS := Lib.hid hs
  have n52 : (n : Int) ≤ 52 := by omega
  have n12 : (12 : Int) ≤ (n : Int) := by omega
  clear hn pb K z0 hs nw ok k6 hwk n4 cu
  go_enter Tryz.func44, Tryz.ntmps44
  go_upto_region 1 with fail
  generalize w.alloc (.cells #[.string c.nm, .int .i64 c.k, .int .i64 c.d, .int .i64 c.m, .int .i64 c.s, .int .i64 c.sh, .int .i64 c.p0, .int .i64 c.p1, .int .i64 c.p2, .int .i64 c.cy, .int .i64 c.ex, .int .i64 c.fi, .int .i64 c.la, .int .i64 c.po] 24) = W0 at *
  obtain ⟨_, c0, c1, c2, c3, c4, c5, c6, c7, c8, c9, c10, c11, c12, c13⟩ := id C
  go_wp2_with fail
  refine (ct _ T).mono ?_
  rintro e w1 ⟨rfl, hb⟩
  replace C := C.kept hb
  replace B := bthen B hb
  replace T := T.kept hb
  clear hb c0 c1 c2 c3 c4 c5 c6 c7 c8 c9 c10 c11 c12 c13 
  obtain ⟨_, c0, c1, c2, c3, c4, c5, c6, c7, c8, c9, c10, c11, c12, c13⟩ := id C
  go_wp2_with fail
  refine (cp _ T).mono ?_
  rintro e w2 ⟨rfl, hb⟩
  replace C := C.kept hb
  replace B := bthen B hb
  replace T := T.kept hb
  clear hb c0 c1 c2 c3 c4 c5 c6 c7 c8 c9 c10 c11 c12 c13 
  obtain ⟨_, c0, c1, c2, c3, c4, c5, c6, c7, c8, c9, c10, c11, c12, c13⟩ := id C
  go_wp2_with fail
  refine (cw _).mono ?_
  rintro e w3 ⟨rfl, hb⟩
  replace C := C.kept hb
  replace B := bthen B hb
  replace T := T.kept hb
  clear hb c0 c1 c2 c3 c4 c5 c6 c7 c8 c9 c10 c11 c12 c13 
  obtain ⟨_, c0, c1, c2, c3, c4, c5, c6, c7, c8, c9, c10, c11, c12, c13⟩ := id C
  go_wp2_with fail
  refine (cs _).mono ?_
  rintro e w4 ⟨rfl, hb⟩
  replace C := C.kept hb
  replace B := bthen B hb
  replace T := T.kept hb
  clear hb c0 c1 c2 c3 c4 c5 c6 c7 c8 c9 c10 c11 c12 c13 
  obtain ⟨_, c0, c1, c2, c3, c4, c5, c6, c7, c8, c9, c10, c11, c12, c13⟩ := id C
  clear ct cs cp cw
  clear c0 c1 c2 c3 c4 c5 c6 c7 c8 c9 c10 c11 c12 c13 
  have HC := C
  obtain ⟨_, c0, c1, c2, c3, c4, c5, c6, c7, c8, c9, c10, c11, c12, c13⟩ := id C
  go_wp2
  clear c0 c1 c2 c3 c4 c5 c6 c7 c8 c9 c10 c11 c12 c13
  go_loopw [7, 21, 23] (fun Z D Y wr => ∃ k : Nat, k ≤ n ∧ Y = .int .i64 ((k : Int) + 1) ∧ D = .int .i64 (pend c y k + 1) ∧ One1 3 w4 wr Z k (fend c y)) (fun _ _ Y _ => ((n : Int) + 1 - intOf Y).toNat)
  case atStart => exact ⟨0, by omega, rfl, by rw [← HS.out]; rfl, One1.start _ _ (Below.refl _ _)⟩
  case round =>
    obtain ⟨k, kM, rfl, rfl, X⟩ := hrel
    have C2 := C.kept X.below
    by_cases hlt : k < n
    · obtain ⟨P, v, q, hp, hv, hv2, hq, q0, q1, P0, P1, v0, v1, OO⟩ := HL.out k hlt
      have HV := Lib.hid (And.intro hv hv2)
      rw [hp]
      have kk : (k : Int) + 1 ≤ (n : Int) := by omega
      obtain ⟨_, c0, c1, c2, c3, c4, c5, c6, c7, c8, c9, c10, c11, c12, c13⟩ := id C2
      have hq4 := HP.out ((k : Int) + 1)
      rw [hq] at hq4
      rw [← hq4] at c9
      clear hq hq4
      clear hv hv2 hp C2
      rcases OO with ⟨o1, hpq⟩ | ⟨o1, o2, hpq⟩ | ⟨o1, o2, hpq⟩
      · obtain ⟨D2, e1⟩ : ∃ D2, P + 1 + 7 * (q) = D2 := ⟨_, rfl⟩
        have e2 : D2 - 1 = v := by omega
        have HE : Hid (D2 = v + 1) := Lib.hid (by omega)
        have dd : 0 ≤ D2 ∧ D2 ≤ 3068099 := by omega
        clear hpq
        go_wp2_with (first
          | (at_builtin; refine wpList_append_own_at _ rfl _ _ 69 rfl w4.heap.size 3 i1 (.int .i64 0) 1 8 hunderN hi hz0 hz1 hz2 rfl (by decide) _ k (lst (fend c y) k) rfl (X.a.alloc _) ⟨_, 0, none⟩ 1 1 [.int .i64 v] rfl rfl ?c1 ?c2 ?c3 ?c4 ?c5 ?m1))
        case c1 =>
          intro j u hj
          match j, hj with
          | 0, hj => simp at hj; subst hj; simp [Addr.add, go_sem]
        case c2 => intro u hu; simp at hu; rcases hu with rfl; rfl
        case c3 => unfold maxLen; omega
        case c4 => omega
        case c5 => have z1 := X.below.size; simp; omega
        case m1 =>
          intro v3 wz hown3 hg3 _ hat
          rw [← HV.out.1] at hown3
          have X4 := X.next hown3 hg3
          go_wp2
          go_roundw
          case rel => exact ⟨k + 1, by omega, by go_num, by rw [HE.out, ← HV.out.2]; rfl, X4⟩
          case measure => simp [intOf]; omega
      · obtain ⟨D2, e1⟩ : ∃ D2, P + 1 + 7 * (q) = D2 := ⟨_, rfl⟩
        have e2 : D2 - 1 = v := by omega
        have HE : Hid (D2 = v + 1) := Lib.hid (by omega)
        have dd : 0 ≤ D2 ∧ D2 ≤ 3068099 := by omega
        clear hpq
        go_wp2_with (first
          | (at_builtin; refine wpList_append_own_at _ rfl _ _ 69 rfl w4.heap.size 3 i1 (.int .i64 0) 1 8 hunderN hi hz0 hz1 hz2 rfl (by decide) _ k (lst (fend c y) k) rfl (X.a.alloc _) ⟨_, 0, none⟩ 1 1 [.int .i64 v] rfl rfl ?c1 ?c2 ?c3 ?c4 ?c5 ?m1))
        case c1 =>
          intro j u hj
          match j, hj with
          | 0, hj => simp at hj; subst hj; simp [Addr.add, go_sem]
        case c2 => intro u hu; simp at hu; rcases hu with rfl; rfl
        case c3 => unfold maxLen; omega
        case c4 => omega
        case c5 => have z1 := X.below.size; simp; omega
        case m1 =>
          intro v3 wz hown3 hg3 _ hat
          rw [← HV.out.1] at hown3
          have X4 := X.next hown3 hg3
          go_wp2
          go_roundw
          case rel => exact ⟨k + 1, by omega, by go_num, by rw [HE.out, ← HV.out.2]; rfl, X4⟩
          case measure => simp [intOf]; omega
      · obtain ⟨D2, e1⟩ : ∃ D2, P + 1 + 7 * (q + 1) = D2 := ⟨_, rfl⟩
        have e2 : D2 - 1 = v := by omega
        have HE : Hid (D2 = v + 1) := Lib.hid (by omega)
        have dd : 0 ≤ D2 ∧ D2 ≤ 3068099 := by omega
        clear hpq
        go_wp2_with (first
          | (at_builtin; refine wpList_append_own_at _ rfl _ _ 69 rfl w4.heap.size 3 i1 (.int .i64 0) 1 8 hunderN hi hz0 hz1 hz2 rfl (by decide) _ k (lst (fend c y) k) rfl (X.a.alloc _) ⟨_, 0, none⟩ 1 1 [.int .i64 v] rfl rfl ?c1 ?c2 ?c3 ?c4 ?c5 ?m1))
        case c1 =>
          intro j u hj
          match j, hj with
          | 0, hj => simp at hj; subst hj; simp [Addr.add, go_sem]
        case c2 => intro u hu; simp at hu; rcases hu with rfl; rfl
        case c3 => unfold maxLen; omega
        case c4 => omega
        case c5 => have z1 := X.below.size; simp; omega
        case m1 =>
          intro v3 wz hown3 hg3 _ hat
          rw [← HV.out.1] at hown3
          have X4 := X.next hown3 hg3
          go_wp2
          go_roundw
          case rel => exact ⟨k + 1, by omega, by go_num, by rw [HE.out, ← HV.out.2]; rfl, X4⟩
          case measure => simp [intOf]; omega
    · obtain rfl : k = n := by omega
      have kk : ¬ (k : Int) + 1 ≤ (k : Int) := by omega
      have Q := X.out (by omega)
      obtain ⟨g, cap, rfl, Q, le, _⟩ := Q
      have bb := bthen B X.below
      have Z : IntsOut w k (fend c y) (.returned (.tuple #[.slice (some ⟨g, 0, none⟩) k cap, .int .i64 0])) wr := ⟨g, cap, rfl, Q, by omega, bb⟩
      have HZ := Lib.hid Z
      clear Z Q X bb
      go_wp2
      exact bodyPost_ret (v := .tuple #[.slice (some ⟨g, 0, none⟩) k cap, .int .i64 0]) (by simp [results, Tryz.results44, go_sem]) rfl HZ.out

theorem rEnds_ok (c : CalZ) (y : Int) (n : Nat) (w : World) (ok : CalOk c) (y0 : 1601 ≤ y) (y1 : y ≤ 9997) (hn : (n : Int) = per c) (K : ChkSays c) (hm : c.nm.size ≤ maxLen) (T : FTab w) :
    Calls Tryz.prog 44 #[.agg #[.string c.nm, .int .i64 c.k, .int .i64 c.d, .int .i64 c.m, .int .i64 c.s, .int .i64 c.sh, .int .i64 c.p0, .int .i64 c.p1, .int .i64 c.p2, .int .i64 c.cy, .int .i64 c.ex, .int .i64 c.fi, .int .i64 c.la, .int .i64 c.po], .int .i64 y] w (IntsOut w n (fend c y)) := by
  rcases sh_cases ok.1 with ⟨s, _⟩ | ⟨s, _⟩ | ⟨s4, s5, k6, cu⟩
  · exact rends_broad c y n w ok y0 y1 hn K hm T s
  · exact rends_month c y n w ok y0 y1 hn K hm T s
  · have : c.sh = 1 ∨ c.sh = 2 ∨ c.sh = 3 := by unfold CutOk at cu; omega
    rcases this with s | s | s
    · exact rends_cut1 c y n w ok y0 y1 hn K hm T k6 cu s
    · exact rends_cut2 c y n w ok y0 y1 hn K hm T k6 cu s
    · exact rends_cut3 c y n w ok y0 y1 hn K hm T k6 cu s

end Go.Proofs.YtjiifmdjhdhabaaGreatDoor.Hr
