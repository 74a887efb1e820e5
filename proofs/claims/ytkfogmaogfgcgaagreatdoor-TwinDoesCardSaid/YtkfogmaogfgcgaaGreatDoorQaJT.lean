/- Texts that are joined: Bcode, Bcode2, Bcode3, Bcode4, Bcode5. -/
import Derived.Maps.AppendAt
import Derived.Maps.OwnIn
import Derived.Test.YtkfogmaogfgcgaaGreatDoorQaJC
import Derived.Test.YtkfogmaogfgcgaaGreatDoorQaFtab
import Derived.Test.YtkfogmaogfgcgaaGreatDoorQaJD
import Derived.Test.YtkfogmaogfgcgaaGreatDoorQaJB
import Derived.Test.YtkfogmaogfgcgaaGreatDoorQaDnext
import Derived.Test.YtkfogmaogfgcgaaGreatDoorQaJM
import Derived.Test.YtkfogmaogfgcgaaGreatDoorQaJIc
import Derived.Deep.RegionHeld3
import Derived.Deep.DeepCutAuto
namespace Go.Proofs.YtkfogmaogfgcgaaGreatDoor.Bp
set_option linter.unusedSimpArgs false
set_option linter.unusedVariables false
open Go.RowKit Go.Maps Bn Bx Cp Am Fp Cm Em Rk

set_option maxHeartbeats 4000000

theorem underU : Tryz.prog.underlying 37 = some (.slice 26) := by kernel_rfl
theorem infoU : (Tryz.prog.info? 26).map (fun i => (i.zero, i.size, i.bytes)) = some (some (.agg #[.int .i64 0, .int .i64 0, .int .i64 0]), 3, 24) := by kernel_rfl

set_option maxRecDepth 100000 in
theorem within_any (c : CalZ) (L y i a b : Int) (n : Nat) (w : World) (hn : (n : Int) = b - a + 1) (a0 : 1 ≤ a) (ab : a ≤ b) (b1 : b ≤ 60)
    (cd : ∀ w, FTab w → Calls Tryz.prog 160 #[.agg #[.string c.nm, .int .i64 c.k, .int .i64 c.d, .int .i64 c.m, .int .i64 c.s, .int .i64 c.sh, .int .i64 c.p0, .int .i64 c.p1, .int .i64 c.p2, .int .i64 c.cy, .int .i64 c.ex, .int .i64 c.fi, .int .i64 c.la, .int .i64 c.po], .agg #[.int .i64 L, .int .i64 y, .int .i64 i], .int .i64 5] w fun e w' => e = .returned (.tuple #[.agg #[.int .i64 5, .int .i64 y, .int .i64 a], .agg #[.int .i64 5, .int .i64 y, .int .i64 b], .int .i64 0]) ∧ Below w.heap.size w w') (T : FTab w) :
    Calls Tryz.prog 104 #[.agg #[.string c.nm, .int .i64 c.k, .int .i64 c.d, .int .i64 c.m, .int .i64 c.s, .int .i64 c.sh, .int .i64 c.p0, .int .i64 c.p1, .int .i64 c.p2, .int .i64 c.cy, .int .i64 c.ex, .int .i64 c.fi, .int .i64 c.la, .int .i64 c.po], .agg #[.int .i64 L, .int .i64 y, .int .i64 i]] w (RowOut w (wkL y a n)) := by
  obtain ⟨i0, hi, hz0, hz1, hz2⟩ := info_parts infoU
  have C := CalIn.new w c 24
  have U := Tri.new (w.alloc (.cells #[.string c.nm, .int .i64 c.k, .int .i64 c.d, .int .i64 c.m, .int .i64 c.s, .int .i64 c.sh, .int .i64 c.p0, .int .i64 c.p1, .int .i64 c.p2, .int .i64 c.cy, .int .i64 c.ex, .int .i64 c.fi, .int .i64 c.la, .int .i64 c.po] 24)) (.int .i64 L) (.int .i64 y) (.int .i64 i) 26
  rw [World.size_alloc] at U
  replace C := C.alloc (.cells #[.int .i64 L, .int .i64 y, .int .i64 i] 26)
  have B := balloc (balloc (Below.refl _ w) (.cells #[.string c.nm, .int .i64 c.k, .int .i64 c.d, .int .i64 c.m, .int .i64 c.s, .int .i64 c.sh, .int .i64 c.p0, .int .i64 c.p1, .int .i64 c.p2, .int .i64 c.cy, .int .i64 c.ex, .int .i64 c.fi, .int .i64 c.la, .int .i64 c.po] 24)) (.cells #[.int .i64 L, .int .i64 y, .int .i64 i] 26)
  replace T := (T.alloc (.cells #[.string c.nm, .int .i64 c.k, .int .i64 c.d, .int .i64 c.m, .int .i64 c.s, .int .i64 c.sh, .int .i64 c.p0, .int .i64 c.p1, .int .i64 c.p2, .int .i64 c.cy, .int .i64 c.ex, .int .i64 c.fi, .int .i64 c.la, .int .i64 c.po] 24)).alloc (.cells #[.int .i64 L, .int .i64 y, .int .i64 i] 26)
  go_enter Tryz.func104, Tryz.ntmps104
  go_upto_region 1 with fail
  generalize (w.alloc (.cells #[.string c.nm, .int .i64 c.k, .int .i64 c.d, .int .i64 c.m, .int .i64 c.s, .int .i64 c.sh, .int .i64 c.p0, .int .i64 c.p1, .int .i64 c.p2, .int .i64 c.cy, .int .i64 c.ex, .int .i64 c.fi, .int .i64 c.la, .int .i64 c.po] 24)).alloc (.cells #[.int .i64 L, .int .i64 y, .int .i64 i] 26) = W0 at *
  obtain ⟨_, c0, c1, c2, c3, c4, c5, c6, c7, c8, c9, c10, c11, c12, c13⟩ := id C
  obtain ⟨_, u0, u1, u2, fu0, fu1, fu2⟩ := id U
  go_wp2_with fail
  refine (cd _ T).mono ?_
  rintro e w1 ⟨rfl, hb⟩
  replace C := C.kept hb
  replace B := bthen B hb
  replace T := T.kept hb
  replace U := U.kept hb
  clear hb c0 c1 c2 c3 c4 c5 c6 c7 c8 c9 c10 c11 c12 c13 u0 u1 u2 fu0 fu1 fu2
  obtain ⟨_, c0, c1, c2, c3, c4, c5, c6, c7, c8, c9, c10, c11, c12, c13⟩ := id C
  obtain ⟨_, u0, u1, u2, fu0, fu1, fu2⟩ := id U
  have V := Tri.new w1 (.int .i64 5) (.int .i64 y) (.int .i64 a) 26
  have N := Tri.new (w1.alloc (.cells #[.int .i64 5, .int .i64 y, .int .i64 a] 26)) (.int .i64 5) (.int .i64 y) (.int .i64 b) 26
  rw [World.size_alloc] at N
  replace V := V.alloc (.cells #[.int .i64 5, .int .i64 y, .int .i64 b] 26)
  replace B := balloc (balloc B (.cells #[.int .i64 5, .int .i64 y, .int .i64 a] 26)) (.cells #[.int .i64 5, .int .i64 y, .int .i64 b] 26)
  clear u0 u1 u2 fu0 fu1 fu2 c0 c1 c2 c3 c4 c5 c6 c7 c8 c9 c10 c11 c12 c13 C T U cd
  go_upto_region 3 with fail
  generalize (w1.alloc (.cells #[.int .i64 5, .int .i64 y, .int .i64 a] 26)).alloc (.cells #[.int .i64 5, .int .i64 y, .int .i64 b] 26) = WL at *
  obtain ⟨_, v0, v1, v2, fv0, fv1, fv2⟩ := id V
  have P0 := Tri.new WL (.int .i64 5) (.int .i64 y) (.int .i64 a) 26
  go_wp2
  go_loopw [8, 9] (fun S P wr => ∃ (k b9 : Nat), k ≤ n ∧ P = .pointer (some ⟨b9, 0, none⟩) ∧ Tri wr b9 (.int .i64 5) (.int .i64 y) (.int .i64 (a + k)) ∧ One3 26 WL wr S (wkL y a k) ∧ ∀ x, S.ownBlock = some x → x ≠ b9) (fun _ P wr => (b + 1 - cellI wr (blkOf P) 2).toNat)
  case atStart => exact ⟨0, WL.heap.size, by omega, rfl, by simpa using P0, One3.start _ (balloc (Below.refl _ _) _), fun x h => by simp [Value.ownBlock] at h⟩
  case round =>
    obtain ⟨k, b9, kn, rfl, P, X, hne⟩ := hrel
    have N2 := N.kept X.below
    obtain ⟨_, p0, p1, p2, fp0, fp1, fp2⟩ := id P
    obtain ⟨_, n0, n1, n2, _, _, _⟩ := id N2
    have sz := X.below.size
    by_cases hlt : k < n
    · have le : a + (k : Int) ≤ b := by omega
      go_wp2_with (first
        | (at_builtin; refine wpList_append_own_at _ rfl _ _ 37 rfl WL.heap.size 26 i0 (.agg #[.int .i64 0, .int .i64 0, .int .i64 0]) 3 24 underU hi hz0 hz1 hz2 rfl (by decide) _ (wkL y a k).length (ucells (wkL y a k)) rfl (X.a.alloc _) ⟨wr.heap.size, 0, none⟩ 1 1 [.int .i64 5, .int .i64 y, .int .i64 (a + k)] rfl rfl ?c1 ?c2 ?c3 ?c4 ?c5 ?m1))
      case c1 =>
        intro j u hj
        match j, hj with
        | 0, hj => simp at hj; subst hj; simp [Addr.add, go_sem]
        | 1, hj => simp at hj; subst hj; simp [Addr.add, go_sem]
        | 2, hj => simp at hj; subst hj; simp [Addr.add, go_sem]
      case c2 => intro u hu; simp at hu; rcases hu with rfl | rfl | rfl <;> rfl
      case c3 => rw [wkL_len]; unfold maxLen; omega
      case c4 => rw [wkL_len]; omega
      case c5 => simp; omega
      case m1 =>
        intro v3 w3 hown3 hg3 _ hat
        have X3 := X.next (u := (5, y, a + (k : Int))) hown3 hg3
        have P3 := tri_grown (P.alloc (.cells #[.int .i64 5, .int .i64 y, .int .i64 (a + (k : Int))] 26)) hg3 (fun e => hne b9 e.symm rfl)
        clear p0 p1 p2 fp0 fp1 fp2 n0 n1 n2
        obtain ⟨_, p0, p1, p2, fp0, fp1, fp2⟩ := id P3
        go_wp2
        go_roundw
        case rel => exact ⟨k + 1, w3.heap.size, by omega, rfl, by rw [show a + ((k + 1 : Nat) : Int) = a + (k : Int) + 1 by omega]; exact Tri.new w3 _ _ _ _, X3.alloc _, fun x h e => by have := (row_lt X3.a h).2; omega⟩
        case measure =>
          unfold blkOf
          rw [cellI_is (Tri.new w3 _ _ _ _).c2, cellI_is P.c2]
          omega
    · have gt : b < a + (k : Int) := by omega
      have kn' : k = n := by omega
      subst kn'
      have XX := X
      obtain ⟨g, cap, rfl, _, _⟩ := X.a.form (by rw [wkL_len]; omega)
      have X2 := X.out rfl (by rw [wkL_len]; omega)
      go_wp2
      go_ret
      exact ⟨g, cap, rfl, X2.1, by have := B.size; omega, bthen B X.below, X2.2.2⟩

end Go.Proofs.YtkfogmaogfgcgaaGreatDoor.Bp

namespace Go.Proofs.YtkfogmaogfgcgaaGreatDoor.Bp
set_option linter.unusedSimpArgs false
set_option linter.unusedVariables false
open Go.RowKit Go.Maps Bn Bx Cp Am Fp Ap Cm Em Ep Rk Hp Ip Jp Dp Mp

set_option maxHeartbeats 4000000

theorem Within_any (c : CalZ) (L y i a b : Int) (n : Nat) (w : World) (u : UnitOk c L y i) (W : WkOf c L y i a b) (hn : (n : Int) = b - a + 1) (hm : c.nm.size ≤ maxLen) (T : FTab w) :
    Calls Tryz.prog 104 #[.agg #[.string c.nm, .int .i64 c.k, .int .i64 c.d, .int .i64 c.m, .int .i64 c.s, .int .i64 c.sh, .int .i64 c.p0, .int .i64 c.p1, .int .i64 c.p2, .int .i64 c.cy, .int .i64 c.ex, .int .i64 c.fi, .int .i64 c.la, .int .i64 c.po], .agg #[.int .i64 L, .int .i64 y, .int .i64 i]] w (RowOut w (wkL y a n)) := by
  have r := wkof_is u W
  have st := served_told u.1 u.2.2.1
  have ub := ucount_bd (L := 5) (y := y) u.1.1 (by omega) (by omega)
  exact within_any c L y i a b n w hn r.2.2.1 r.2.2.2.1 (by omega) (fun w T => Down_any c L y i 5 5 y a b 0 w (.inl ⟨u, u.2.1.2, by omega, W.1, W.2, rfl, rfl, rfl⟩) hm T) T

def CntA (c : CalZ) (t n : Int) (p q r er : Int) : Prop := (cntW c t n = some (p, q, r) ∧ er = 0) ∨ (cntW c t n = none ∧ p = 0 ∧ q = 0 ∧ r = 0 ∧ er = 11)
theorem cnta_ex (c : CalZ) (t n : Int) : ∃ p q r er, CntA c t n p q r er := by
  cases h : cntW c t n with
  | none => exact ⟨0, 0, 0, 11, .inr ⟨h, rfl, rfl, rfl, rfl⟩⟩
  | some u => exact ⟨u.1, u.2.1, u.2.2, 0, .inl ⟨h, rfl⟩⟩

set_option maxRecDepth 100000 in
theorem counted_any (c : CalZ) (t n p q r er : Int) (w : World) (ok : CalOk c) (k6 : c.k ≠ 6) (s : Served c t) (n0 : 0 ≤ n) (n1 : n ≤ nweeks c t + 1) (R : CntA c t n p q r er) (hm : c.nm.size ≤ maxLen) (T : FTab w) :
    Calls Tryz.prog 158 #[.agg #[.string c.nm, .int .i64 c.k, .int .i64 c.d, .int .i64 c.m, .int .i64 c.s, .int .i64 c.sh, .int .i64 c.p0, .int .i64 c.p1, .int .i64 c.p2, .int .i64 c.cy, .int .i64 c.ex, .int .i64 c.fi, .int .i64 c.la, .int .i64 c.po], .int .i64 t, .int .i64 n] w fun e w' => e = .returned (.tuple #[.agg #[.int .i64 p, .int .i64 q, .int .i64 r], .int .i64 er]) ∧ Below w.heap.size w w' := by
  have st := served_told ok s
  obtain ⟨m, hmm⟩ : ∃ m, m = nweeks c t := ⟨_, rfl⟩
  have m01 := (nweeks_01 ok.1 k6 (y := t) (by omega) (by omega))
  have cw := fun w T => Ap.Weeks_any c t m 0 w (.inl ⟨ok, k6, by omega, by omega, hmm, rfl⟩) hm T
  have uc : ucount c t 5 = nwk c t := by simp [ucount]
  have nw := nwk_weeks ok.1 k6 (y := t) (by omega) (by omega)
  have l5 : LevOk 5 := ⟨by omega, by omega⟩
  have O : (n = 0 ∧ ∀ w, FTab w → Calls Tryz.prog 13 #[.agg #[.string c.nm, .int .i64 c.k, .int .i64 c.d, .int .i64 c.m, .int .i64 c.s, .int .i64 c.sh, .int .i64 c.p0, .int .i64 c.p1, .int .i64 c.p2, .int .i64 c.cy, .int .i64 c.ex, .int .i64 c.fi, .int .i64 c.la, .int .i64 c.po], .agg #[.int .i64 5, .int .i64 t, .int .i64 1]] w fun e w' => e = .returned (.tuple #[.agg #[.int .i64 p, .int .i64 q, .int .i64 r], .int .i64 er]) ∧ Below w.heap.size w w') ∨
      (1 ≤ n ∧ m < n ∧ ∀ w, FTab w → Calls Tryz.prog 11 #[.agg #[.string c.nm, .int .i64 c.k, .int .i64 c.d, .int .i64 c.m, .int .i64 c.s, .int .i64 c.sh, .int .i64 c.p0, .int .i64 c.p1, .int .i64 c.p2, .int .i64 c.cy, .int .i64 c.ex, .int .i64 c.fi, .int .i64 c.la, .int .i64 c.po], .agg #[.int .i64 5, .int .i64 t, .int .i64 m]] w fun e w' => e = .returned (.tuple #[.agg #[.int .i64 p, .int .i64 q, .int .i64 r], .int .i64 er]) ∧ Below w.heap.size w w') ∨
      (1 ≤ n ∧ n ≤ m ∧ p = 5 ∧ q = t ∧ r = n ∧ er = 0) := by
    unfold CntA cntW at R
    by_cases h0 : n < 1
    · refine .inl ⟨by omega, fun w T => Back_any c 5 t 1 p q r er w ?_ hm T⟩
      rw [if_pos h0] at R
      have u1 : UnitOk c 5 t 1 := ⟨ok, l5, s, by omega, by omega⟩
      rcases back_ex u1 with ⟨h, _⟩ | ⟨_, h, A, _⟩ | ⟨_, h, A⟩
      · omega
      · rw [if_pos h] at R
        have s2 : Served c (t - 1) := ⟨by omega, by have := s.2; omega⟩
        have st2 := served_told ok s2
        have uc2 : ucount c (t - 1) 5 = nwk c (t - 1) := by simp [ucount]
        have nw2 := nwk_weeks ok.1 k6 (y := t - 1) (by omega) (by omega)
        rcases R with ⟨e, rfl⟩ | ⟨e, _⟩
        · cases e
          rw [uc2, nw2] at A
          exact A
        · cases e
      · rw [if_neg (by omega)] at R
        rcases R with ⟨e, _⟩ | ⟨_, rfl, rfl, rfl, rfl⟩
        · cases e
        · exact A
    · rw [if_neg h0] at R
      by_cases h1 : nweeks c t < n
      · refine .inr (.inl ⟨by omega, by omega, fun w T => Next_any c 5 t m p q r er w ?_ hm T⟩)
        rw [if_pos h1] at R
        have u1 : UnitOk c 5 t m := ⟨ok, l5, s, by omega, by omega⟩
        rcases next_ex u1 with ⟨h, _⟩ | ⟨_, h, A, _⟩ | ⟨_, h, A⟩
        · omega
        · rw [if_pos h] at R
          rcases R with ⟨e, rfl⟩ | ⟨e, _⟩
          · cases e; exact A
          · cases e
        · rw [if_neg (by omega)] at R
          rcases R with ⟨e, _⟩ | ⟨_, rfl, rfl, rfl, rfl⟩
          · cases e
          · exact A
      · rw [if_neg h1] at R
        rcases R with ⟨e, rfl⟩ | ⟨e, _⟩
        · cases e
          exact .inr (.inr ⟨by omega, by omega, rfl, rfl, rfl, rfl⟩)
        · cases e
  have C := CalIn.new w c 24
  have U := Tri.new (w.alloc (.cells #[.string c.nm, .int .i64 c.k, .int .i64 c.d, .int .i64 c.m, .int .i64 c.s, .int .i64 c.sh, .int .i64 c.p0, .int .i64 c.p1, .int .i64 c.p2, .int .i64 c.cy, .int .i64 c.ex, .int .i64 c.fi, .int .i64 c.la, .int .i64 c.po] 24)) (.int .i64 0) (.int .i64 0) (.int .i64 0) 26
  rw [World.size_alloc] at U
  replace C := C.alloc (.cells #[.int .i64 0, .int .i64 0, .int .i64 0] 26)
  have B := balloc (balloc (Below.refl _ w) (.cells #[.string c.nm, .int .i64 c.k, .int .i64 c.d, .int .i64 c.m, .int .i64 c.s, .int .i64 c.sh, .int .i64 c.p0, .int .i64 c.p1, .int .i64 c.p2, .int .i64 c.cy, .int .i64 c.ex, .int .i64 c.fi, .int .i64 c.la, .int .i64 c.po] 24)) (.cells #[.int .i64 0, .int .i64 0, .int .i64 0] 26)
  have T0 := T
  replace T := (T.alloc (.cells #[.string c.nm, .int .i64 c.k, .int .i64 c.d, .int .i64 c.m, .int .i64 c.s, .int .i64 c.sh, .int .i64 c.p0, .int .i64 c.p1, .int .i64 c.p2, .int .i64 c.cy, .int .i64 c.ex, .int .i64 c.fi, .int .i64 c.la, .int .i64 c.po] 24)).alloc (.cells #[.int .i64 0, .int .i64 0, .int .i64 0] 26)
  have zz : w.heap.size + 2 ≤ ((w.alloc (.cells #[.string c.nm, .int .i64 c.k, .int .i64 c.d, .int .i64 c.m, .int .i64 c.s, .int .i64 c.sh, .int .i64 c.p0, .int .i64 c.p1, .int .i64 c.p2, .int .i64 c.cy, .int .i64 c.ex, .int .i64 c.fi, .int .i64 c.la, .int .i64 c.po] 24)).alloc (.cells #[.int .i64 0, .int .i64 0, .int .i64 0] 26)).heap.size := by simp
  have mb : 52 ≤ m ∧ m ≤ 53 := by omega
  clear R ok k6 s st m01 uc nw l5 hmm n1
  go_enter Tryz.func158, Tryz.ntmps158
  go_upto_region 1 with fail
  generalize (w.alloc (.cells #[.string c.nm, .int .i64 c.k, .int .i64 c.d, .int .i64 c.m, .int .i64 c.s, .int .i64 c.sh, .int .i64 c.p0, .int .i64 c.p1, .int .i64 c.p2, .int .i64 c.cy, .int .i64 c.ex, .int .i64 c.fi, .int .i64 c.la, .int .i64 c.po] 24)).alloc (.cells #[.int .i64 0, .int .i64 0, .int .i64 0] 26) = W0 at *
  have V := Tri.new W0 (.int .i64 5) (.int .i64 t) (.int .i64 n) 26
  obtain ⟨_, c0, c1, c2, c3, c4, c5, c6, c7, c8, c9, c10, c11, c12, c13⟩ := id C
  obtain ⟨_, u0, u1, u2, fu0, fu1, fu2⟩ := id U
  replace C := C.alloc (.cells #[.int .i64 5, .int .i64 t, .int .i64 n] 26)
  replace T := T.alloc (.cells #[.int .i64 5, .int .i64 t, .int .i64 n] 26)
  replace U := U.alloc (.cells #[.int .i64 5, .int .i64 t, .int .i64 n] 26)
  replace B := balloc B (.cells #[.int .i64 5, .int .i64 t, .int .i64 n] 26)
  clear c0 c1 c2 c3 c4 c5 c6 c7 c8 c9 c10 c11 c12 c13 u0 u1 u2 fu0 fu1 fu2
  obtain ⟨_, c0, c1, c2, c3, c4, c5, c6, c7, c8, c9, c10, c11, c12, c13⟩ := id C
  obtain ⟨_, u0, u1, u2, fu0, fu1, fu2⟩ := id U
  obtain ⟨_, v0, v1, v2, fv0, fv1, fv2⟩ := id V
  go_wp2_with fail
  refine (cw _ T).mono ?_
  rintro e w1 ⟨rfl, hb⟩
  replace C := C.kept hb
  replace B := bthen B hb
  replace T := T.kept hb
  replace U := U.kept hb
  replace V := V.kept hb
  clear hb c0 c1 c2 c3 c4 c5 c6 c7 c8 c9 c10 c11 c12 c13 u0 u1 u2 fu0 fu1 fu2 v0 v1 v2 fv0 fv1 fv2
  obtain ⟨_, c0, c1, c2, c3, c4, c5, c6, c7, c8, c9, c10, c11, c12, c13⟩ := id C
  obtain ⟨_, u0, u1, u2, fu0, fu1, fu2⟩ := id U
  obtain ⟨_, v0, v1, v2, fv0, fv1, fv2⟩ := id V
  rcases O with ⟨rfl, cb⟩ | ⟨h0, h1, cb⟩ | ⟨h0, h1, rfl, rfl, rfl, rfl⟩
  · go_wp2_with fail
    refine (cb _ (T0.kept (bset B (by omega) _ _))).mono ?_
    rintro e w2 ⟨rfl, hb⟩
    have U2 := (U.other 2 (.int .i64 1) (g := W0.heap.size) (by omega)).kept hb
    have B2 := bthen (bset B (g := W0.heap.size) (by omega) 2 (.int .i64 1)) hb
    clear u0 u1 u2 fu0 fu1 fu2
    obtain ⟨_, u0, u1, u2, fu0, fu1, fu2⟩ := id U2
    go_wp2
    refine bodyPost_ret (v := .tuple #[.agg #[.int .i64 p, .int .i64 q, .int .i64 r], .int .i64 er]) (by simp [results, Tryz.results158, go_sem, *]) rfl ⟨rfl, ?_⟩
    exact bset (bset (bset B2 (by omega) _ _) (by omega) _ _) (by omega) _ _
  · go_wp2_with fail
    refine (cb _ (T0.kept (bset B (by omega) _ _))).mono ?_
    rintro e w2 ⟨rfl, hb⟩
    have U2 := (U.other 2 (.int .i64 m) (g := W0.heap.size) (by omega)).kept hb
    have B2 := bthen (bset B (g := W0.heap.size) (by omega) 2 (.int .i64 m)) hb
    clear u0 u1 u2 fu0 fu1 fu2
    obtain ⟨_, u0, u1, u2, fu0, fu1, fu2⟩ := id U2
    go_wp2
    refine bodyPost_ret (v := .tuple #[.agg #[.int .i64 p, .int .i64 q, .int .i64 r], .int .i64 er]) (by simp [results, Tryz.results158, go_sem, *]) rfl ⟨rfl, ?_⟩
    exact bset (bset (bset B2 (by omega) _ _) (by omega) _ _) (by omega) _ _
  · go_wp2
    refine bodyPost_ret (v := .tuple #[.agg #[.int .i64 5, .int .i64 _, .int .i64 _], .int .i64 0]) (by simp [results, Tryz.results158, go_sem, *]) rfl ⟨rfl, ?_⟩
    exact bset (bset (bset B (by omega) _ _) (by omega) _ _) (by omega) _ _

end Go.Proofs.YtkfogmaogfgcgaaGreatDoor.Bp

namespace Go.Proofs.YtkfogmaogfgcgaaGreatDoor.Bp
set_option linter.unusedSimpArgs false
set_option linter.unusedVariables false
open Go.RowKit Go.Maps Bn Bx Cp Am Fp Ap Cm Em Ep Rk Hp Ip Jp Dp Mp

set_option maxHeartbeats 8000000

def CmpOut (w : World) (o : Option (List U3)) (e : Ending) (w' : World) : Prop :=
  (o = none ∧ e = .returned (.tuple #[.slice none 0 0, .int .i64 11]) ∧ Below w.heap.size w w') ∨
  ∃ (l : List U3) (ptr : Option Addr) (cap : Nat), o = some l ∧ e = .returned (.tuple #[.slice ptr l.length cap, .int .i64 0]) ∧ One3 26 w w' (.slice ptr l.length cap) l
theorem One3.form {EL : TypeId} {w W : World} {v : Value} {l : List U3} (X : One3 EL w W v l) : ∃ ptr cap, v = .slice ptr l.length cap := by
  rcases X.a.2 with ⟨h, h0⟩ | ⟨g, cap, cur, hv, _⟩
  · have : l.length = 0 := h0
    exact ⟨none, 0, by rw [h, this]⟩
  · exact ⟨_, _, hv⟩
theorem One3.base {EL : TypeId} {w w0 W : World} {v : Value} {l : List U3} (X : One3 EL w W v l) (hb : Below w0.heap.size w0 w) : One3 EL w0 W v l := by
  refine ⟨Pr.bthen hb X.below, X.a.1, ?_⟩
  rcases X.a.2 with h | ⟨g, cap, cur, hv, hg, r⟩
  · exact .inl h
  · exact .inr ⟨g, cap, cur, hv, Nat.le_trans hb.size hg, r⟩

set_option maxRecDepth 100000 in
theorem compared_any (c : CalZ) (L y i t a b : Int) (n : Nat) (w : World) (u : UnitOk c L y i) (k6 : c.k ≠ 6) (W : WkOf c L y i a b) (hn : (n : Int) = b - a + 1) (st : Served c t) (hm : c.nm.size ≤ maxLen) (T : FTab w) :
    Calls Tryz.prog 102 #[.agg #[.string c.nm, .int .i64 c.k, .int .i64 c.d, .int .i64 c.m, .int .i64 c.s, .int .i64 c.sh, .int .i64 c.p0, .int .i64 c.p1, .int .i64 c.p2, .int .i64 c.cy, .int .i64 c.ex, .int .i64 c.fi, .int .i64 c.la, .int .i64 c.po], .agg #[.int .i64 L, .int .i64 y, .int .i64 i], .int .i64 t] w (CmpOut w (cmpW c y t a n)) := by
  obtain ⟨i0, hi, hz0, hz1, hz2⟩ := info_parts infoU
  have r := wkof_is u W
  have ty := served_told u.1 u.2.2.1
  have tt := served_told u.1 st
  have uc : ucount c y 5 = nwk c y := by simp [ucount]
  have nw := nwk_weeks u.1.1 k6 (y := y) (by omega) (by omega)
  have n53 := (nweeks_01 u.1.1 k6 (y := y) (by omega) (by omega)).1
  have C := CalIn.new w c 24
  have U := Tri.new (w.alloc (.cells #[.string c.nm, .int .i64 c.k, .int .i64 c.d, .int .i64 c.m, .int .i64 c.s, .int .i64 c.sh, .int .i64 c.p0, .int .i64 c.p1, .int .i64 c.p2, .int .i64 c.cy, .int .i64 c.ex, .int .i64 c.fi, .int .i64 c.la, .int .i64 c.po] 24)) (.int .i64 L) (.int .i64 y) (.int .i64 i) 26
  rw [World.size_alloc] at U
  replace C := C.alloc (.cells #[.int .i64 L, .int .i64 y, .int .i64 i] 26)
  have B := balloc (balloc (Below.refl _ w) (.cells #[.string c.nm, .int .i64 c.k, .int .i64 c.d, .int .i64 c.m, .int .i64 c.s, .int .i64 c.sh, .int .i64 c.p0, .int .i64 c.p1, .int .i64 c.p2, .int .i64 c.cy, .int .i64 c.ex, .int .i64 c.fi, .int .i64 c.la, .int .i64 c.po] 24)) (.cells #[.int .i64 L, .int .i64 y, .int .i64 i] 26)
  replace T := (T.alloc (.cells #[.string c.nm, .int .i64 c.k, .int .i64 c.d, .int .i64 c.m, .int .i64 c.s, .int .i64 c.sh, .int .i64 c.p0, .int .i64 c.p1, .int .i64 c.p2, .int .i64 c.cy, .int .i64 c.ex, .int .i64 c.fi, .int .i64 c.la, .int .i64 c.po] 24)).alloc (.cells #[.int .i64 L, .int .i64 y, .int .i64 i] 26)
  have cw := fun w T => Within_any c L y i a b n w u W hn hm T
  have F : Hid (∀ k : Nat, k < n → ∀ l, cmpW c y t a k = some l →
      (cmpW c y t a (k + 1) = some l ∧ ∀ w, FTab w → Calls Tryz.prog 57 #[.agg #[.string c.nm, .int .i64 c.k, .int .i64 c.d, .int .i64 c.m, .int .i64 c.s, .int .i64 c.sh, .int .i64 c.p0, .int .i64 c.p1, .int .i64 c.p2, .int .i64 c.cy, .int .i64 c.ex, .int .i64 c.fi, .int .i64 c.la, .int .i64 c.po], .int .i64 y, .int .i64 t, .int .i64 (a + k)] w fun e w' => e = .returned (.tuple #[.int .i64 0, .int .i64 12]) ∧ Below w.heap.size w w') ∨
      ∃ v p q r er, (∀ w, FTab w → Calls Tryz.prog 57 #[.agg #[.string c.nm, .int .i64 c.k, .int .i64 c.d, .int .i64 c.m, .int .i64 c.s, .int .i64 c.sh, .int .i64 c.p0, .int .i64 c.p1, .int .i64 c.p2, .int .i64 c.cy, .int .i64 c.ex, .int .i64 c.fi, .int .i64 c.la, .int .i64 c.po], .int .i64 y, .int .i64 t, .int .i64 (a + k)] w fun e w' => e = .returned (.tuple #[.int .i64 v, .int .i64 0]) ∧ Below w.heap.size w w') ∧
        (∀ w, FTab w → Calls Tryz.prog 158 #[.agg #[.string c.nm, .int .i64 c.k, .int .i64 c.d, .int .i64 c.m, .int .i64 c.s, .int .i64 c.sh, .int .i64 c.p0, .int .i64 c.p1, .int .i64 c.p2, .int .i64 c.cy, .int .i64 c.ex, .int .i64 c.fi, .int .i64 c.la, .int .i64 c.po], .int .i64 t, .int .i64 v] w fun e w' => e = .returned (.tuple #[.agg #[.int .i64 p, .int .i64 q, .int .i64 r], .int .i64 er]) ∧ Below w.heap.size w w') ∧
        ((cmpW c y t a (k + 1) = some (l ++ [(p, q, r)]) ∧ er = 0) ∨ (cmpW c y t a n = none ∧ er = 11))) := Lib.hid (fun k hk l hl => by
    have x0 : 1 ≤ a + (k : Int) := by omega
    have x1 : a + (k : Int) ≤ nweeks c y := by omega
    rcases polF_is (y := y) (t := t) (x := a + (k : Int)) u.1 k6 with ⟨v, hv, P⟩ | ⟨hv, P⟩
    · right
      have vb := polF_bd u.1 k6 (by omega) (by omega) (by omega) (by omega) x0 x1 hv
      obtain ⟨p, q, r, er, R⟩ := cnta_ex c t v
      refine ⟨v, p, q, r, er, fun w T => Week_any c y t (a + k) v 0 w (.inl ⟨u.1, k6, u.2.2.1, st, x0, x1, P⟩) hm T, fun w T => counted_any c t v p q r er w u.1 k6 st vb.1 vb.2 R hm T, ?_⟩
      rcases R with ⟨h, rfl⟩ | ⟨h, _, _, _, rfl⟩
      · exact .inl ⟨by simp [cmpW, hl, hv, h], rfl⟩
      · refine .inr ⟨?_, rfl⟩
        obtain ⟨m, rfl⟩ : ∃ m, n = k + 1 + m := ⟨n - (k + 1), by omega⟩
        exact cmpW_none (k + 1) m (by simp [cmpW, hl, hv, h])
    · left
      exact ⟨by simp [cmpW, hl, hv], fun w T => Week_any c y t (a + k) 0 12 w (.inl ⟨u.1, k6, u.2.2.1, st, x0, x1, P⟩) hm T⟩)
  have a1 : 1 ≤ a := by omega
  have nb : (n : Int) ≤ 60 ∧ a + n ≤ 61 ∧ 1 ≤ n := by omega
  clear r ty tt uc nw n53 u k6 W st
  go_enter Tryz.func102, Tryz.ntmps102
  go_upto_region 1 with fail
  generalize (w.alloc (.cells #[.string c.nm, .int .i64 c.k, .int .i64 c.d, .int .i64 c.m, .int .i64 c.s, .int .i64 c.sh, .int .i64 c.p0, .int .i64 c.p1, .int .i64 c.p2, .int .i64 c.cy, .int .i64 c.ex, .int .i64 c.fi, .int .i64 c.la, .int .i64 c.po] 24)).alloc (.cells #[.int .i64 L, .int .i64 y, .int .i64 i] 26) = W0 at *
  obtain ⟨_, c0, c1, c2, c3, c4, c5, c6, c7, c8, c9, c10, c11, c12, c13⟩ := id C
  obtain ⟨_, u0, u1, u2, fu0, fu1, fu2⟩ := id U
  go_wp2_with fail
  refine (cw _ T).mono ?_
  rintro e w1 ⟨g, cap0, rfl, R, hg, hb, hcap⟩
  replace C := C.kept hb
  replace B := bthen B hb
  replace T := T.kept hb
  replace U := U.kept hb
  clear hb c0 c1 c2 c3 c4 c5 c6 c7 c8 c9 c10 c11 c12 c13 u0 u1 u2 fu0 fu1 fu2
  obtain ⟨_, c0, c1, c2, c3, c4, c5, c6, c7, c8, c9, c10, c11, c12, c13⟩ := id C
  obtain ⟨_, u0, u1, u2, fu0, fu1, fu2⟩ := id U
  rw [wkL_len]
  have le : ∀ k l, cmpW c y t a k = some l → l.length ≤ k := fun k => by
    induction k with
    | zero => intro l h; simp [cmpW] at h; subst h; simp
    | succ k ih =>
      intro l h
      simp only [cmpW] at h
      cases h0 : cmpW c y t a k with
      | none => rw [h0] at h; cases h
      | some l0 =>
        rw [h0] at h
        simp only at h
        have := ih l0 h0
        cases h1 : polF c y t (a + k) with
        | none => rw [h1] at h; cases h; omega
        | some v =>
          rw [h1] at h
          simp only at h
          cases h2 : cntW c t v with
          | none => rw [h2] at h; cases h
          | some u => rw [h2] at h; cases h; simp; omega
  have LE := Lib.hid le
  have BL := B
  clear le
  go_wp2
  go_loopw [8, 18] (fun S X wr => ∃ (k : Nat) (l : List U3), k ≤ n ∧ X = .int .i64 (k : Int) ∧ Hid (cmpW c y t a k = some l) ∧ One3 26 w1 wr S l) (fun _ X _ => (61 - intOf X).toNat)
  case atStart => exact ⟨0, [], by omega, rfl, Lib.hid rfl, One3.start _ (Below.refl _ _)⟩
  case round =>
    obtain ⟨k, l, kn, rfl, E, X⟩ := hrel
    have ll := LE.out k l E.out
    replace C := C.kept X.below
    replace T := T.kept X.below
    replace U := U.kept X.below
    have R2 := R.kept X.below
    replace B := bthen B X.below
    clear c0 c1 c2 c3 c4 c5 c6 c7 c8 c9 c10 c11 c12 c13 u0 u1 u2 fu0 fu1 fu2
    by_cases hlt : k < n
    · have rk := R2.c k _ (wkL_at y a n k hlt)
      obtain ⟨rk0, rk1, rk2⟩ := rk
      have kk : (k : Int) < n := by omega
      have FF := Lib.hid (F.out k hlt l E.out)
      obtain ⟨x, hx⟩ : ∃ x, x = a + (k : Int) := ⟨_, rfl⟩
      rw [← hx] at FF rk2
      have hx' := Lib.hid hx
      clear F hx
      obtain ⟨_, c0, c1, c2, c3, c4, c5, c6, c7, c8, c9, c10, c11, c12, c13⟩ := id C
      obtain ⟨_, u0, u1, u2, fu0, fu1, fu2⟩ := id U
      go_upto_region 5 with fail
      have P := Tri.new wr (.int .i64 5) (.int .i64 y) (.int .i64 x) 26
      replace C := C.alloc (.cells #[.int .i64 5, .int .i64 y, .int .i64 x] 26)
      replace T := T.alloc (.cells #[.int .i64 5, .int .i64 y, .int .i64 x] 26)
      replace U := U.alloc (.cells #[.int .i64 5, .int .i64 y, .int .i64 x] 26)
      replace X := X.alloc (.cells #[.int .i64 5, .int .i64 y, .int .i64 x] 26)
      replace B := balloc B (.cells #[.int .i64 5, .int .i64 y, .int .i64 x] 26)
      clear rk0 rk1 rk2
      clear c0 c1 c2 c3 c4 c5 c6 c7 c8 c9 c10 c11 c12 c13 u0 u1 u2 fu0 fu1 fu2
      generalize wr.alloc (.cells #[.int .i64 5, .int .i64 y, .int .i64 x] 26) = W8 at *
      obtain ⟨_, c0, c1, c2, c3, c4, c5, c6, c7, c8, c9, c10, c11, c12, c13⟩ := id C
      obtain ⟨_, u0, u1, u2, fu0, fu1, fu2⟩ := id U
      obtain ⟨_, p0, p1, p2, fp0, fp1, fp2⟩ := id P
      rcases FF.out with ⟨E2, qw⟩ | ⟨v, p, q, r, er, qw, qc, O⟩
      · have E2' := Lib.hid E2
        clear E2
        go_wp2_with fail
        refine (qw _ T).mono ?_
        rintro e w9 ⟨rfl, hb⟩
        replace X := X.kept hb
        clear hb P p0 p1 p2 fp0 fp1 fp2 u0 u1 u2 fu0 fu1 fu2 U C T B
        clear c0 c1 c2 c3 c4 c5 c6 c7 c8 c9 c10 c11 c12 c13 
        go_wp2
        go_roundw
        case rel => exact ⟨k + 1, l, by omega, by go_num, E2', X⟩
        case measure => simp [intOf]; omega
      · have O' := Lib.hid O
        clear O
        go_wp2_with fail
        refine (qw _ T).mono ?_
        rintro e w9 ⟨rfl, hb⟩
        replace X := X.kept hb
        replace C := C.kept hb
        replace T := T.kept hb
        replace B := bthen B hb
        clear hb P p0 p1 p2 fp0 fp1 fp2 u0 u1 u2 fu0 fu1 fu2 U
        clear c0 c1 c2 c3 c4 c5 c6 c7 c8 c9 c10 c11 c12 c13 
        obtain ⟨_, c0, c1, c2, c3, c4, c5, c6, c7, c8, c9, c10, c11, c12, c13⟩ := id C
        go_wp2_with fail
        refine (qc _ T).mono ?_
        rintro e w10 ⟨rfl, hb⟩
        replace X := X.kept hb
        replace B := bthen B hb
        have Q := Tri.new w10 (.int .i64 p) (.int .i64 q) (.int .i64 r) 26
        replace X := X.alloc (.cells #[.int .i64 p, .int .i64 q, .int .i64 r] 26)
        replace B := balloc B (.cells #[.int .i64 p, .int .i64 q, .int .i64 r] 26)
        clear hb C T
        clear c0 c1 c2 c3 c4 c5 c6 c7 c8 c9 c10 c11 c12 c13 
        have sz := X.below.size
        rcases O'.out with ⟨E2, rfl⟩ | ⟨E2, rfl⟩
        · have E2' := Lib.hid E2
          clear E2
          go_upto_region 10 with fail
          generalize w10.alloc (.cells #[.int .i64 p, .int .i64 q, .int .i64 r] 26) = WQ at *
          obtain ⟨_, q0, q1, q2, fq0, fq1, fq2⟩ := id Q
          go_wp2_with (first
            | (at_builtin; refine wpList_append_own_at _ rfl _ _ 37 rfl w1.heap.size 26 i0 (.agg #[.int .i64 0, .int .i64 0, .int .i64 0]) 3 24 underU hi hz0 hz1 hz2 rfl (by decide) _ l.length (ucells l) rfl (X.a.alloc _) ⟨WQ.heap.size, 0, none⟩ 1 1 [.int .i64 p, .int .i64 q, .int .i64 r] rfl rfl ?c1 ?c2 ?c3 ?c4 ?c5 ?m1))
          case c1 =>
            intro j u hj
            match j, hj with
            | 0, hj => simp at hj; subst hj; simp [Addr.add, go_sem]
            | 1, hj => simp at hj; subst hj; simp [Addr.add, go_sem]
            | 2, hj => simp at hj; subst hj; simp [Addr.add, go_sem]
          case c2 => intro u hu; simp at hu; rcases hu with rfl | rfl | rfl <;> rfl
          case c3 => unfold maxLen; omega
          case c4 => omega
          case c5 => simp; omega
          case m1 =>
            intro v3 w3 hown3 hg3 _ _
            have X3 := X.next (u := (p, q, r)) hown3 hg3
            clear q0 q1 q2 fq0 fq1 fq2
            go_wp2
            go_roundw
            case rel => exact ⟨k + 1, _, by omega, by go_num, E2', X3⟩
            case measure => simp [intOf]; omega
        · have E2' := Lib.hid E2
          clear E2
          go_wp2
          go_ret2
          exact .inl ⟨E2'.out, by simp, B⟩
    · have kn' : k = n := by omega
      subst kn'
      have dk : decide ((k : Int) < (k : Int)) = false := decide_eq_false (by omega)
      obtain ⟨ptr, cap, rfl⟩ := One3.form X
      go_wp2
      go_ret2
      exact .inr ⟨l, ptr, cap, E.out, by simp, One3.base X BL⟩

end Go.Proofs.YtkfogmaogfgcgaaGreatDoor.Bp

namespace Go.Proofs.YtkfogmaogfgcgaaGreatDoor.Bp
set_option linter.unusedSimpArgs false
set_option linter.unusedVariables false
open Go.RowKit Go.Maps Bn Bx Cp Am Fp Ap Cm Em Ep Rk Hp Ip Jp Dp Mp

set_option maxHeartbeats 8000000

def RowIs (w W : World) (v : Value) (l : List U3) : Prop :=
  (l = [] ∧ ∃ ptr cap, v = .slice ptr 0 cap) ∨ ∃ g cap : Nat, v = .slice (some ⟨g, 0, none⟩) l.length cap ∧ Urow W g l ∧ w.heap.size ≤ g ∧ l.length ≤ cap

theorem urow_one {W : World} {g : Nat} {u1 u2 u3 : Int} (K : Tri W g (.int .i64 u1) (.int .i64 u2) (.int .i64 u3)) : Urow W g [(u1, u2, u3)] := by
  refine ⟨K.lt, fun i u h => ?_⟩
  cases i with
  | zero => simp at h; subst h; exact ⟨K.c0, K.c1, K.c2⟩
  | succ j => simp at h

set_option maxRecDepth 100000 in
theorem weekOfMonth_any (c : CalZ) (y i t p a b a' b' : Int) (n n' : Nat) (w : World) (u : UnitOk c 5 y i) (hp : InU c y 4 (uend c y 5 (i - 1) + 1) p) (k6 : c.k = 6) (W : WkOf c 4 y p a b) (hn : (n : Int) = b - a + 1) (W' : WkOf c 4 t p a' b') (hn' : (n' : Int) = b' - a' + 1) (ai : a ≤ i) (st : Served c t) (hm : c.nm.size ≤ maxLen) (T : FTab w) :
    Calls Tryz.prog 103 #[.agg #[.string c.nm, .int .i64 c.k, .int .i64 c.d, .int .i64 c.m, .int .i64 c.s, .int .i64 c.sh, .int .i64 c.p0, .int .i64 c.p1, .int .i64 c.p2, .int .i64 c.cy, .int .i64 c.ex, .int .i64 c.fi, .int .i64 c.la, .int .i64 c.po], .agg #[.int .i64 5, .int .i64 y, .int .i64 i], .int .i64 t] w fun e w' => ∃ v, e = .returned v ∧ RowIs w w' v (if i - a ≤ b' - a' then [(5, t, a' + (i - a))] else []) ∧ Below w.heap.size w w' := by
  have up : UnitOk c 4 y p := ⟨u.1, ⟨by omega, by omega⟩, u.2.2.1, hp.1, hp.2.1⟩
  have um := month_unit k6 up (by decide) st
  have r := wkof_is up W
  have r' := wkof_is um W'
  have ty := served_told u.1 u.2.2.1
  have tt := served_told u.1 st
  have ub := ucount_bd (L := 5) (y := y) u.1.1 (by omega) (by omega)
  have ub' := ucount_bd (L := 5) (y := t) u.1.1 (by omega) (by omega)
  have i60 : i ≤ 60 := by have := u.2.2.2.2; omega
  have C := CalIn.new w c 24
  have U := Tri.new (w.alloc (.cells #[.string c.nm, .int .i64 c.k, .int .i64 c.d, .int .i64 c.m, .int .i64 c.s, .int .i64 c.sh, .int .i64 c.p0, .int .i64 c.p1, .int .i64 c.p2, .int .i64 c.cy, .int .i64 c.ex, .int .i64 c.fi, .int .i64 c.la, .int .i64 c.po] 24)) (.int .i64 5) (.int .i64 y) (.int .i64 i) 26
  rw [World.size_alloc] at U
  replace C := C.alloc (.cells #[.int .i64 5, .int .i64 y, .int .i64 i] 26)
  have B := balloc (balloc (Below.refl _ w) (.cells #[.string c.nm, .int .i64 c.k, .int .i64 c.d, .int .i64 c.m, .int .i64 c.s, .int .i64 c.sh, .int .i64 c.p0, .int .i64 c.p1, .int .i64 c.p2, .int .i64 c.cy, .int .i64 c.ex, .int .i64 c.fi, .int .i64 c.la, .int .i64 c.po] 24)) (.cells #[.int .i64 5, .int .i64 y, .int .i64 i] 26)
  have T0 := T
  replace T := (T.alloc (.cells #[.string c.nm, .int .i64 c.k, .int .i64 c.d, .int .i64 c.m, .int .i64 c.s, .int .i64 c.sh, .int .i64 c.p0, .int .i64 c.p1, .int .i64 c.p2, .int .i64 c.cy, .int .i64 c.ex, .int .i64 c.fi, .int .i64 c.la, .int .i64 c.po] 24)).alloc (.cells #[.int .i64 5, .int .i64 y, .int .i64 i] 26)
  have zz : w.heap.size + 2 ≤ ((w.alloc (.cells #[.string c.nm, .int .i64 c.k, .int .i64 c.d, .int .i64 c.m, .int .i64 c.s, .int .i64 c.sh, .int .i64 c.p0, .int .i64 c.p1, .int .i64 c.p2, .int .i64 c.cy, .int .i64 c.ex, .int .i64 c.fi, .int .i64 c.la, .int .i64 c.po] 24)).alloc (.cells #[.int .i64 5, .int .i64 y, .int .i64 i] 26)).heap.size := by simp
  have cu := fun w T => Up_any c 5 y i 4 4 y p 0 w (.inl ⟨u, by omega, by omega, hp, rfl, rfl, rfl⟩) hm T
  have ca := fun w T => Within_any c 4 y p a b n w up W hn hm T
  have cb := fun w T => Within_any c 4 t p a' b' n' w um W' hn' hm T
  have a1 : 1 ≤ a := by omega
  have a1' : 1 ≤ a' ∧ b' ≤ 60 := by omega
  have nn : 1 ≤ n ∧ 1 ≤ n' := by omega
  clear u up um r r' ty tt ub ub' W W' hp k6 st
  obtain ⟨j, hj⟩ : ∃ j : Nat, (j : Int) = i - a := ⟨(i - a).toNat, by omega⟩
  have hw : IntKind.i64.wrap (i - a) = (j : Int) := by rw [IntWalk.i64_in _ (by omega)]; omega
  have nn0 : (0 : Int) < n := by omega
  have eqs : (if i - a ≤ b' - a' then [((5, t, a' + (i - a)) : U3)] else []) = (if j < n' then [(5, t, a' + (j : Int))] else []) := by
    rw [← hj]
    by_cases q : j < n'
    · rw [if_pos q, if_pos (by omega)]
    · rw [if_neg q, if_neg (by omega)]
  rw [eqs]
  obtain ⟨ll, hll⟩ : ∃ ll, (if j < n' then [((5, t, a' + (j : Int)) : U3)] else []) = ll := ⟨_, rfl⟩
  rw [hll]
  have hl' := Lib.hid hll
  clear hll
  have j60 : j ≤ 60 := by omega
  clear eqs hj ai
  go_enter Tryz.func103, Tryz.ntmps103
  go_upto_region 1 with fail
  generalize (w.alloc (.cells #[.string c.nm, .int .i64 c.k, .int .i64 c.d, .int .i64 c.m, .int .i64 c.s, .int .i64 c.sh, .int .i64 c.p0, .int .i64 c.p1, .int .i64 c.p2, .int .i64 c.cy, .int .i64 c.ex, .int .i64 c.fi, .int .i64 c.la, .int .i64 c.po] 24)).alloc (.cells #[.int .i64 5, .int .i64 y, .int .i64 i] 26) = W0 at *
  obtain ⟨_, c0, c1, c2, c3, c4, c5, c6, c7, c8, c9, c10, c11, c12, c13⟩ := id C
  obtain ⟨_, u0, u1, u2, fu0, fu1, fu2⟩ := id U
  go_wp2_with fail
  refine (cu _ T).mono ?_
  rintro e w1 ⟨rfl, hb⟩
  replace C := C.kept hb
  replace B := bthen B hb
  replace T := T.kept hb
  replace U := U.kept hb
  clear hb c0 c1 c2 c3 c4 c5 c6 c7 c8 c9 c10 c11 c12 c13 u0 u1 u2 fu0 fu1 fu2
  obtain ⟨_, c0, c1, c2, c3, c4, c5, c6, c7, c8, c9, c10, c11, c12, c13⟩ := id C
  obtain ⟨_, u0, u1, u2, fu0, fu1, fu2⟩ := id U
  have M := Tri.new w1 (.int .i64 4) (.int .i64 y) (.int .i64 p) 26
  have sz1 := B.size
  replace C := C.alloc (.cells #[.int .i64 4, .int .i64 y, .int .i64 p] 26)
  replace T := T.alloc (.cells #[.int .i64 4, .int .i64 y, .int .i64 p] 26)
  replace U := U.alloc (.cells #[.int .i64 4, .int .i64 y, .int .i64 p] 26)
  replace B := balloc B (.cells #[.int .i64 4, .int .i64 y, .int .i64 p] 26)
  clear c0 c1 c2 c3 c4 c5 c6 c7 c8 c9 c10 c11 c12 c13 u0 u1 u2 fu0 fu1 fu2
  obtain ⟨_, c0, c1, c2, c3, c4, c5, c6, c7, c8, c9, c10, c11, c12, c13⟩ := id C
  obtain ⟨_, u0, u1, u2, fu0, fu1, fu2⟩ := id U
  obtain ⟨_, m0, m1, m2, fm0, fm1, fm2⟩ := id M
  go_upto_region 2 with fail
  generalize hW8 : w1.alloc (.cells #[.int .i64 4, .int .i64 y, .int .i64 p] 26) = W8 at *
  obtain ⟨MB, hMB⟩ : ∃ MB, MB = w1.heap.size := ⟨_, rfl⟩
  rw [← hMB] at M ⊢
  have szM : w.heap.size + 2 ≤ MB := by rw [hMB]; omega
  have z8 : MB < W8.heap.size := M.lt
  clear hMB hW8
  obtain ⟨_, m0, m1, m2, fm0, fm1, fm2⟩ := id M
  go_cut [9] (fun s9 wx => s9 = .int .i64 (j : Int) ∧ Below W8.heap.size W8 wx)
  case first =>
    first
      | (go_region_with (first | (go_at_call 104; (with_reducible refine (ca _ (T.kept (by repeat (first | (with_reducible assumption) | (with_reducible exact Below.refl _ _) | (with_reducible refine bdrewN ?_ _) | (with_reducible refine Below.drew ?_))))).mono ?_); rintro e w9 ⟨g, cap, rfl, R, hg, hb, hcap⟩; have hB := bthen (w := W8) (by repeat (first | (with_reducible assumption) | (with_reducible exact Below.refl _ _) | (with_reducible refine bdrewN ?_ _) | (with_reducible refine Below.drew ?_))) hb; (have rc := R.c 0 _ (wkL_at y a n 0 (by omega))); simp only [wkL_len, Nat.zero_mul, Nat.zero_add, Int.natCast_zero, Int.add_zero] at rc ⊢; obtain ⟨rc0, rc1, rc2⟩ := rc; have Uk := U.kept hB; obtain ⟨_, uk0, uk1, uk2, fuk0, fuk1, fuk2⟩ := id Uk)))
      | fail
    all_goals go_wp2_with fail
    all_goals go_meet
    all_goals exact ⟨rfl, hB⟩
  case rest =>
    obtain ⟨rfl, hB⟩ := hcut
    replace M := M.kept hB
    replace C := C.kept hB
    replace B := bthen B hB
    have zc := hB.size
    clear hB u0 u1 u2 fu0 fu1 fu2 m0 m1 m2 fm0 fm1 fm2
    clear c0 c1 c2 c3 c4 c5 c6 c7 c8 c9 c10 c11 c12 c13 
    obtain ⟨_, c0, c1, c2, c3, c4, c5, c6, c7, c8, c9, c10, c11, c12, c13⟩ := id C
    obtain ⟨_, m0, m1, m2, fm0, fm1, fm2⟩ := id M
    go_wp2_with fail
    refine (cb _ (T0.kept (bset B (by omega) _ _))).mono ?_
    rintro e wx ⟨g, cap, rfl, R, hg, hb, hcap⟩
    have Bx := bthen (bset B (g := MB) (by omega) 1 (.int .i64 t)) hb
    rw [wkL_len]
    by_cases q : j < n'
    · have rj := R.c j _ (wkL_at t a' n' j q)
      obtain ⟨rj0, rj1, rj2⟩ := rj
      have dj : (j : Int) < n' := by omega
      go_wp2
      go_ret
      have e := hl'.out
      rw [if_pos q] at e
      subst e
      have K := Tri.new wx (.int .i64 5) (.int .i64 t) (.int .i64 (a' + (j : Int))) 26
      exact ⟨_, rfl, .inr ⟨wx.heap.size, 1, rfl, urow_one K, by have := Bx.size; omega, by simp⟩, balloc Bx _⟩
    · have dj : ¬ (j : Int) < n' := by omega
      go_wp2
      go_ret
      have e := hl'.out
      rw [if_neg q] at e
      subst e
      exact ⟨_, rfl, .inl ⟨rfl, _, _, rfl⟩, Bx⟩

set_option maxRecDepth 100000 in
theorem weeks_any (c : CalZ) (L y i t : Int) (o : Option (List U3)) (w : World) (u : UnitOk c L y i) (R : WeeksF c L y i t o) (st : Served c t) (hm : c.nm.size ≤ maxLen) (T : FTab w) :
    Calls Tryz.prog 66 #[.agg #[.string c.nm, .int .i64 c.k, .int .i64 c.d, .int .i64 c.m, .int .i64 c.s, .int .i64 c.sh, .int .i64 c.p0, .int .i64 c.p1, .int .i64 c.p2, .int .i64 c.cy, .int .i64 c.ex, .int .i64 c.fi, .int .i64 c.la, .int .i64 c.po], .agg #[.int .i64 L, .int .i64 y, .int .i64 i], .int .i64 t] w fun e w' =>
      (o = none ∧ e = .returned (.tuple #[.slice none 0 0, .int .i64 11]) ∧ Below w.heap.size w w') ∨ ∃ (l : List U3) (v : Value), o = some l ∧ e = .returned (.tuple #[v, .int .i64 0]) ∧ RowIs w w' v l ∧ Below w.heap.size w w' := by
  have C := CalIn.new w c 24
  have U := Tri.new (w.alloc (.cells #[.string c.nm, .int .i64 c.k, .int .i64 c.d, .int .i64 c.m, .int .i64 c.s, .int .i64 c.sh, .int .i64 c.p0, .int .i64 c.p1, .int .i64 c.p2, .int .i64 c.cy, .int .i64 c.ex, .int .i64 c.fi, .int .i64 c.la, .int .i64 c.po] 24)) (.int .i64 L) (.int .i64 y) (.int .i64 i) 26
  rw [World.size_alloc] at U
  replace C := C.alloc (.cells #[.int .i64 L, .int .i64 y, .int .i64 i] 26)
  have B := balloc (balloc (Below.refl _ w) (.cells #[.string c.nm, .int .i64 c.k, .int .i64 c.d, .int .i64 c.m, .int .i64 c.s, .int .i64 c.sh, .int .i64 c.p0, .int .i64 c.p1, .int .i64 c.p2, .int .i64 c.cy, .int .i64 c.ex, .int .i64 c.fi, .int .i64 c.la, .int .i64 c.po] 24)) (.cells #[.int .i64 L, .int .i64 y, .int .i64 i] 26)
  have T0 := T
  replace T := (T.alloc (.cells #[.string c.nm, .int .i64 c.k, .int .i64 c.d, .int .i64 c.m, .int .i64 c.s, .int .i64 c.sh, .int .i64 c.p0, .int .i64 c.p1, .int .i64 c.p2, .int .i64 c.cy, .int .i64 c.ex, .int .i64 c.fi, .int .i64 c.la, .int .i64 c.po] 24)).alloc (.cells #[.int .i64 L, .int .i64 y, .int .i64 i] 26)
  rcases R with ⟨k6, a, b, W, ho⟩ | ⟨k6, hL, a, b, W, ho⟩ | ⟨k6, rfl, p, a, b, a', b', hp, W, W', ai, ho⟩
  all_goals have ho' := Lib.hid ho
  all_goals clear ho
  · have r := wkof_is u W
    have cc := fun w T => compared_any c L y i t a b (b - a + 1).toNat w u k6 W (by omega) st hm T
    have d6 : (c.k != 6) = true := bne_iff_ne.2 k6
    clear u k6 W st r
    go_enter Tryz.func66, Tryz.ntmps66
    go_upto_region 1 with fail
    generalize (w.alloc (.cells #[.string c.nm, .int .i64 c.k, .int .i64 c.d, .int .i64 c.m, .int .i64 c.s, .int .i64 c.sh, .int .i64 c.p0, .int .i64 c.p1, .int .i64 c.p2, .int .i64 c.cy, .int .i64 c.ex, .int .i64 c.fi, .int .i64 c.la, .int .i64 c.po] 24)).alloc (.cells #[.int .i64 L, .int .i64 y, .int .i64 i] 26) = W0 at *
    obtain ⟨_, c0, c1, c2, c3, c4, c5, c6, c7, c8, c9, c10, c11, c12, c13⟩ := id C
    obtain ⟨_, u0, u1, u2, fu0, fu1, fu2⟩ := id U
    go_wp2_with fail
    refine (cc _ T).mono ?_
    rintro e w1 (⟨h, rfl, hb⟩ | ⟨l, ptr, cap, h, rfl, X⟩)
    · have h' := Lib.hid h
      clear h
      go_wp2
      go_ret2
      exact .inl ⟨ho'.out.trans h'.out, by simp, bthen B hb⟩
    · have h' := Lib.hid h
      clear h
      go_wp2
      go_ret2
      refine .inr ⟨l, _, ho'.out.trans h'.out, rfl, ?_, bthen B X.below⟩
      by_cases l0 : l = []
      · subst l0
        exact .inl ⟨rfl, _, _, rfl⟩
      · obtain ⟨g, cap', e, _, _⟩ := X.a.form (by cases l with | nil => exact absurd rfl l0 | cons x q => simp)
        cases e
        have XO := X.out rfl (by cases l with | nil => exact absurd rfl l0 | cons x q => simp)
        exact .inr ⟨g, cap, rfl, XO.1, by have := B.size; omega, XO.2.2⟩
  · have um := month_unit k6 u hL st
    have r := wkof_is um W
    obtain ⟨n, hn⟩ : ∃ n, (b - a + 1).toNat = n := ⟨_, rfl⟩
    have cc := fun w T => Within_any c L t i a b n w um W (by omega) hm T
    have n1 : 1 ≤ n := by omega
    rw [hn] at ho'
    have d6 : (c.k != 6) = false := by rw [k6]; rfl
    have d5 : (L == 5) = false := beq_eq_false_iff_ne.2 hL
    clear u k6 W st r um hL hn
    go_enter Tryz.func66, Tryz.ntmps66
    go_upto_region 1 with fail
    have zz : w.heap.size + 2 ≤ ((w.alloc (.cells #[.string c.nm, .int .i64 c.k, .int .i64 c.d, .int .i64 c.m, .int .i64 c.s, .int .i64 c.sh, .int .i64 c.p0, .int .i64 c.p1, .int .i64 c.p2, .int .i64 c.cy, .int .i64 c.ex, .int .i64 c.fi, .int .i64 c.la, .int .i64 c.po] 24)).alloc (.cells #[.int .i64 L, .int .i64 y, .int .i64 i] 26)).heap.size := by simp
    generalize (w.alloc (.cells #[.string c.nm, .int .i64 c.k, .int .i64 c.d, .int .i64 c.m, .int .i64 c.s, .int .i64 c.sh, .int .i64 c.p0, .int .i64 c.p1, .int .i64 c.p2, .int .i64 c.cy, .int .i64 c.ex, .int .i64 c.fi, .int .i64 c.la, .int .i64 c.po] 24)).alloc (.cells #[.int .i64 L, .int .i64 y, .int .i64 i] 26) = W0 at *
    obtain ⟨_, c0, c1, c2, c3, c4, c5, c6, c7, c8, c9, c10, c11, c12, c13⟩ := id C
    obtain ⟨_, u0, u1, u2, fu0, fu1, fu2⟩ := id U
    go_wp2_with fail
    refine (cc _ (T0.kept (bset B (by omega) _ _))).mono ?_
    rintro e w1 ⟨g, cap, rfl, R, hg, hb, hcap⟩
    have B1 := bthen (bset B (g := w.heap.size + 1) (by omega) 1 (.int .i64 t)) hb
    have sz := (bset B (g := w.heap.size + 1) (by omega) 1 (.int .i64 t)).size
    go_wp2
    go_ret2
    exact .inr ⟨_, _, ho'.out, rfl, .inr ⟨g, cap, rfl, R, by omega, hcap⟩, B1⟩
  · have r := wkof_is (month_unit k6 (⟨u.1, ⟨by omega, by omega⟩, u.2.2.1, hp.1, hp.2.1⟩ : UnitOk c 4 y p) (by decide) st) W'
    have r0 := wkof_is (⟨u.1, ⟨by omega, by omega⟩, u.2.2.1, hp.1, hp.2.1⟩ : UnitOk c 4 y p) W
    have cc := fun w T => weekOfMonth_any c y i t p a b a' b' (b - a + 1).toNat (b' - a' + 1).toNat w u hp k6 W (by omega) W' (by omega) ai st hm T
    have d6 : (c.k != 6) = false := by rw [k6]; rfl
    clear u k6 W W' st r r0 hp ai
    go_enter Tryz.func66, Tryz.ntmps66
    go_upto_region 1 with fail
    generalize (w.alloc (.cells #[.string c.nm, .int .i64 c.k, .int .i64 c.d, .int .i64 c.m, .int .i64 c.s, .int .i64 c.sh, .int .i64 c.p0, .int .i64 c.p1, .int .i64 c.p2, .int .i64 c.cy, .int .i64 c.ex, .int .i64 c.fi, .int .i64 c.la, .int .i64 c.po] 24)).alloc (.cells #[.int .i64 5, .int .i64 y, .int .i64 i] 26) = W0 at *
    obtain ⟨_, c0, c1, c2, c3, c4, c5, c6, c7, c8, c9, c10, c11, c12, c13⟩ := id C
    obtain ⟨_, u0, u1, u2, fu0, fu1, fu2⟩ := id U
    go_wp2_with fail
    refine (cc _ T).mono ?_
    rintro e w1 ⟨v, rfl, R, hb⟩
    have sz := B.size
    go_wp2
    go_ret2
    refine .inr ⟨_, _, ho'.out, rfl, ?_, bthen B hb⟩
    rcases R with h | ⟨g, cap, h1, h2, h3, h4⟩
    · exact .inl h
    · exact .inr ⟨g, cap, h1, h2, by omega, h4⟩

end Go.Proofs.YtkfogmaogfgcgaaGreatDoor.Bp

namespace Go.Proofs.YtkfogmaogfgcgaaGreatDoor.Bp
set_option linter.unusedSimpArgs false
set_option linter.unusedVariables false
open Go.RowKit Go.Maps Bn Bx Cp Am Fp Ap Cm Em Ep Rk Hp Ip Jp Dp Mp

set_option maxHeartbeats 8000000

set_option maxRecDepth 100000 in
theorem Weeks_ok (c : CalZ) (L y i k : Int) (l : List U3) (w : World) (R : TwA c L y i k l 0) (hm : c.nm.size ≤ maxLen) (T : FTab w) :
    Calls Tryz.prog 26 #[.agg #[.string c.nm, .int .i64 c.k, .int .i64 c.d, .int .i64 c.m, .int .i64 c.s, .int .i64 c.sh, .int .i64 c.p0, .int .i64 c.p1, .int .i64 c.p2, .int .i64 c.cy, .int .i64 c.ex, .int .i64 c.fi, .int .i64 c.la, .int .i64 c.po], .agg #[.int .i64 L, .int .i64 y, .int .i64 i], .int .i64 k] w (UnitsTo w l) := by
  rcases R with ⟨u, st, o, wf, ⟨_, _, h⟩ | ⟨_, _, h⟩ | ⟨rfl, ne, _⟩⟩ | ⟨_, _, _, h⟩ | ⟨no, ck, _⟩
  · omega
  · omega
  rotate_left
  · omega
  · exact absurd ((uchka_ok ck).1 rfl) no
  obtain ⟨e0, ck⟩ := uchka_ex c L y i
  have e00 := (uchka_ok ck).2 u
  subst e00
  have cc := fun w T => UCheck_any c L y i 0 w ck hm T
  have cw := fun w T => weeks_any c L y i (y + k) (some l) w u wf st hm T
  have ty := served_told u.1 u.2.2.1
  have tt := served_told u.1 st
  have yo := u.1.2.2.1
  obtain ⟨o0, o1, o2, o3⟩ := yo
  obtain ⟨q0, q1⟩ := st
  have h1 : c.fi - y ≤ k := by omega
  have h2 : k ≤ c.la - y := by omega
  have l1 : 1 ≤ l.length := by cases l with | nil => exact absurd rfl ne | cons x q => simp
  have d1 : ((l.length : Int) == 0) = false := beq_eq_false_iff_ne.2 (by omega)
  have C := CalIn.new w c 24
  have U := Tri.new (w.alloc (.cells #[.string c.nm, .int .i64 c.k, .int .i64 c.d, .int .i64 c.m, .int .i64 c.s, .int .i64 c.sh, .int .i64 c.p0, .int .i64 c.p1, .int .i64 c.p2, .int .i64 c.cy, .int .i64 c.ex, .int .i64 c.fi, .int .i64 c.la, .int .i64 c.po] 24)) (.int .i64 L) (.int .i64 y) (.int .i64 i) 26
  rw [World.size_alloc] at U
  replace C := C.alloc (.cells #[.int .i64 L, .int .i64 y, .int .i64 i] 26)
  have B := balloc (balloc (Below.refl _ w) (.cells #[.string c.nm, .int .i64 c.k, .int .i64 c.d, .int .i64 c.m, .int .i64 c.s, .int .i64 c.sh, .int .i64 c.p0, .int .i64 c.p1, .int .i64 c.p2, .int .i64 c.cy, .int .i64 c.ex, .int .i64 c.fi, .int .i64 c.la, .int .i64 c.po] 24)) (.cells #[.int .i64 L, .int .i64 y, .int .i64 i] 26)
  replace T := (T.alloc (.cells #[.string c.nm, .int .i64 c.k, .int .i64 c.d, .int .i64 c.m, .int .i64 c.s, .int .i64 c.sh, .int .i64 c.p0, .int .i64 c.p1, .int .i64 c.p2, .int .i64 c.cy, .int .i64 c.ex, .int .i64 c.fi, .int .i64 c.la, .int .i64 c.po] 24)).alloc (.cells #[.int .i64 L, .int .i64 y, .int .i64 i] 26)
  clear u wf ck q0 q1
  go_enter Tryz.func26, Tryz.ntmps26
  go_upto_region 1 with fail
  generalize (w.alloc (.cells #[.string c.nm, .int .i64 c.k, .int .i64 c.d, .int .i64 c.m, .int .i64 c.s, .int .i64 c.sh, .int .i64 c.p0, .int .i64 c.p1, .int .i64 c.p2, .int .i64 c.cy, .int .i64 c.ex, .int .i64 c.fi, .int .i64 c.la, .int .i64 c.po] 24)).alloc (.cells #[.int .i64 L, .int .i64 y, .int .i64 i] 26) = W0 at *
  obtain ⟨_, c0, c1, c2, c3, c4, c5, c6, c7, c8, c9, c10, c11, c12, c13⟩ := id C
  obtain ⟨_, u0, u1, u2, fu0, fu1, fu2⟩ := id U
  go_wp2_with fail
  refine (cc _ T).mono ?_
  rintro e w1 ⟨rfl, hb⟩
  replace C := C.kept hb
  replace B := bthen B hb
  replace T := T.kept hb
  replace U := U.kept hb
  clear hb c0 c1 c2 c3 c4 c5 c6 c7 c8 c9 c10 c11 c12 c13 u0 u1 u2 fu0 fu1 fu2
  obtain ⟨_, c0, c1, c2, c3, c4, c5, c6, c7, c8, c9, c10, c11, c12, c13⟩ := id C
  obtain ⟨_, u0, u1, u2, fu0, fu1, fu2⟩ := id U
  go_wp2_with fail
  refine (cw _ T).mono ?_
  rintro e w3 (⟨h, _⟩ | ⟨l', v, h, rfl, X, hb⟩)
  · cases h
  cases h
  rcases X with ⟨h, _⟩ | ⟨g, cap, rfl, R, hg, hcap⟩
  · exact absurd h ne
  have sz := B.size
  replace B := bthen B hb
  go_wp2
  go_ret2
  exact ⟨g, cap, rfl, R, by omega, B, hcap⟩

set_option maxRecDepth 100000 in
theorem Weeks_er (c : CalZ) (L y i k er : Int) (l : List U3) (w : World) (R : TwA c L y i k l er) (ne : er ≠ 0) (wk : (Lit.int .i64 k).wf = true) (hm : c.nm.size ≤ maxLen) (T : FTab w) :
    Calls Tryz.prog 26 #[.agg #[.string c.nm, .int .i64 c.k, .int .i64 c.d, .int .i64 c.m, .int .i64 c.s, .int .i64 c.sh, .int .i64 c.p0, .int .i64 c.p1, .int .i64 c.p2, .int .i64 c.cy, .int .i64 c.ex, .int .i64 c.fi, .int .i64 c.la, .int .i64 c.po], .agg #[.int .i64 L, .int .i64 y, .int .i64 i], .int .i64 k] w fun e w' => e = .returned (.tuple #[.slice none 0 0, .int .i64 er]) ∧ Below w.heap.size w w' := by
  have C := CalIn.new w c 24
  have U := Tri.new (w.alloc (.cells #[.string c.nm, .int .i64 c.k, .int .i64 c.d, .int .i64 c.m, .int .i64 c.s, .int .i64 c.sh, .int .i64 c.p0, .int .i64 c.p1, .int .i64 c.p2, .int .i64 c.cy, .int .i64 c.ex, .int .i64 c.fi, .int .i64 c.la, .int .i64 c.po] 24)) (.int .i64 L) (.int .i64 y) (.int .i64 i) 26
  rw [World.size_alloc] at U
  replace C := C.alloc (.cells #[.int .i64 L, .int .i64 y, .int .i64 i] 26)
  have B := balloc (balloc (Below.refl _ w) (.cells #[.string c.nm, .int .i64 c.k, .int .i64 c.d, .int .i64 c.m, .int .i64 c.s, .int .i64 c.sh, .int .i64 c.p0, .int .i64 c.p1, .int .i64 c.p2, .int .i64 c.cy, .int .i64 c.ex, .int .i64 c.fi, .int .i64 c.la, .int .i64 c.po] 24)) (.cells #[.int .i64 L, .int .i64 y, .int .i64 i] 26)
  replace T := (T.alloc (.cells #[.string c.nm, .int .i64 c.k, .int .i64 c.d, .int .i64 c.m, .int .i64 c.s, .int .i64 c.sh, .int .i64 c.p0, .int .i64 c.p1, .int .i64 c.p2, .int .i64 c.cy, .int .i64 c.ex, .int .i64 c.fi, .int .i64 c.la, .int .i64 c.po] 24)).alloc (.cells #[.int .i64 L, .int .i64 y, .int .i64 i] 26)
  obtain ⟨e0, ck⟩ := uchka_ex c L y i
  rcases R with ⟨u, st, o, wf, O⟩ | ⟨u, ns, _, rfl⟩ | ⟨no, ck2, _⟩
  · have e00 := (uchka_ok ck).2 u
    subst e00
    have cc := fun w T => UCheck_any c L y i 0 w ck hm T
    have cw := fun w T => weeks_any c L y i (y + k) o w u wf st hm T
    have ty := served_told u.1 u.2.2.1
    have tt := served_told u.1 st
    have yo := u.1.2.2.1
    obtain ⟨o0, o1, o2, o3⟩ := yo
    obtain ⟨q0, q1⟩ := st
    have h1 : c.fi - y ≤ k := by omega
    have h2 : k ≤ c.la - y := by omega
    have O2 : (o = none ∧ er = 11) ∨ (o = some [] ∧ er = 12) := by
      rcases O with ⟨h, _, h2⟩ | ⟨h, _, h2⟩ | ⟨_, _, h⟩
      · exact .inl ⟨h, h2⟩
      · exact .inr ⟨h, h2⟩
      · exact absurd h ne
    clear u wf ck q0 q1 O
    rcases O2 with ⟨rfl, rfl⟩ | ⟨rfl, rfl⟩
    · go_enter Tryz.func26, Tryz.ntmps26
      go_upto_region 1 with fail
      generalize (w.alloc (.cells #[.string c.nm, .int .i64 c.k, .int .i64 c.d, .int .i64 c.m, .int .i64 c.s, .int .i64 c.sh, .int .i64 c.p0, .int .i64 c.p1, .int .i64 c.p2, .int .i64 c.cy, .int .i64 c.ex, .int .i64 c.fi, .int .i64 c.la, .int .i64 c.po] 24)).alloc (.cells #[.int .i64 L, .int .i64 y, .int .i64 i] 26) = W0 at *
      obtain ⟨_, c0, c1, c2, c3, c4, c5, c6, c7, c8, c9, c10, c11, c12, c13⟩ := id C
      obtain ⟨_, u0, u1, u2, fu0, fu1, fu2⟩ := id U
      go_wp2_with fail
      refine (cc _ T).mono ?_
      rintro e w1 ⟨rfl, hb⟩
      replace C := C.kept hb
      replace B := bthen B hb
      replace T := T.kept hb
      replace U := U.kept hb
      clear hb c0 c1 c2 c3 c4 c5 c6 c7 c8 c9 c10 c11 c12 c13 u0 u1 u2 fu0 fu1 fu2
      obtain ⟨_, c0, c1, c2, c3, c4, c5, c6, c7, c8, c9, c10, c11, c12, c13⟩ := id C
      obtain ⟨_, u0, u1, u2, fu0, fu1, fu2⟩ := id U
      go_wp2_with fail
      refine (cw _ T).mono ?_
      rintro e w3 (⟨_, rfl, hb⟩ | ⟨l', v, h, _⟩)
      rotate_left
      · cases h
      replace B := bthen B hb
      go_wp2
      go_ret2
      exact ⟨by simp, B⟩
    · go_enter Tryz.func26, Tryz.ntmps26
      go_upto_region 1 with fail
      generalize (w.alloc (.cells #[.string c.nm, .int .i64 c.k, .int .i64 c.d, .int .i64 c.m, .int .i64 c.s, .int .i64 c.sh, .int .i64 c.p0, .int .i64 c.p1, .int .i64 c.p2, .int .i64 c.cy, .int .i64 c.ex, .int .i64 c.fi, .int .i64 c.la, .int .i64 c.po] 24)).alloc (.cells #[.int .i64 L, .int .i64 y, .int .i64 i] 26) = W0 at *
      obtain ⟨_, c0, c1, c2, c3, c4, c5, c6, c7, c8, c9, c10, c11, c12, c13⟩ := id C
      obtain ⟨_, u0, u1, u2, fu0, fu1, fu2⟩ := id U
      go_wp2_with fail
      refine (cc _ T).mono ?_
      rintro e w2 ⟨rfl, hb⟩
      replace C := C.kept hb
      replace B := bthen B hb
      replace T := T.kept hb
      replace U := U.kept hb
      clear hb c0 c1 c2 c3 c4 c5 c6 c7 c8 c9 c10 c11 c12 c13 u0 u1 u2 fu0 fu1 fu2
      obtain ⟨_, c0, c1, c2, c3, c4, c5, c6, c7, c8, c9, c10, c11, c12, c13⟩ := id C
      obtain ⟨_, u0, u1, u2, fu0, fu1, fu2⟩ := id U
      go_wp2_with fail
      refine (cw _ T).mono ?_
      rintro e w3 (⟨h, _⟩ | ⟨l', v, h, rfl, X, hb⟩)
      · cases h
      cases h
      rcases X with ⟨_, ptr, cap, rfl⟩ | ⟨g, cap, rfl, _⟩
      all_goals
        replace B := bthen B hb
        go_wp2
        go_ret2
        exact ⟨by simp, B⟩
  · have e00 := (uchka_ok ck).2 u
    subst e00
    have cc := fun w T => UCheck_any c L y i 0 w ck hm T
    have ty := served_told u.1 u.2.2.1
    have yo := u.1.2.2.1
    obtain ⟨o0, o1, o2, o3⟩ := yo
    obtain ⟨q0, q1⟩ := u.2.2.1
    have O : k < c.fi - y ∨ (c.fi - y ≤ k ∧ c.la - y < k) := by
      unfold Served at ns
      omega
    clear u ck ns
    rcases O with h | ⟨h, h'⟩
    all_goals
      go_enter Tryz.func26, Tryz.ntmps26
      go_upto_region 1 with fail
      generalize (w.alloc (.cells #[.string c.nm, .int .i64 c.k, .int .i64 c.d, .int .i64 c.m, .int .i64 c.s, .int .i64 c.sh, .int .i64 c.p0, .int .i64 c.p1, .int .i64 c.p2, .int .i64 c.cy, .int .i64 c.ex, .int .i64 c.fi, .int .i64 c.la, .int .i64 c.po] 24)).alloc (.cells #[.int .i64 L, .int .i64 y, .int .i64 i] 26) = W0 at *
      obtain ⟨_, c0, c1, c2, c3, c4, c5, c6, c7, c8, c9, c10, c11, c12, c13⟩ := id C
      obtain ⟨_, u0, u1, u2, fu0, fu1, fu2⟩ := id U
      go_wp2_with fail
      refine (cc _ T).mono ?_
      rintro e w3 ⟨rfl, hb⟩
      replace C := C.kept hb
      replace B := bthen B hb
      replace T := T.kept hb
      replace U := U.kept hb
      clear hb c0 c1 c2 c3 c4 c5 c6 c7 c8 c9 c10 c11 c12 c13 u0 u1 u2 fu0 fu1 fu2
      obtain ⟨_, c0, c1, c2, c3, c4, c5, c6, c7, c8, c9, c10, c11, c12, c13⟩ := id C
      obtain ⟨_, u0, u1, u2, fu0, fu1, fu2⟩ := id U
      go_wp2
      go_ret2
      exact ⟨by simp, B⟩
  · have cc := fun w T => UCheck_any c L y i er w ck2 hm T
    have n1 : (er != 0) = true := bne_iff_ne.2 ne
    clear no ck2 ck ne
    go_enter Tryz.func26, Tryz.ntmps26
    go_upto_region 1 with fail
    generalize (w.alloc (.cells #[.string c.nm, .int .i64 c.k, .int .i64 c.d, .int .i64 c.m, .int .i64 c.s, .int .i64 c.sh, .int .i64 c.p0, .int .i64 c.p1, .int .i64 c.p2, .int .i64 c.cy, .int .i64 c.ex, .int .i64 c.fi, .int .i64 c.la, .int .i64 c.po] 24)).alloc (.cells #[.int .i64 L, .int .i64 y, .int .i64 i] 26) = W0 at *
    obtain ⟨_, c0, c1, c2, c3, c4, c5, c6, c7, c8, c9, c10, c11, c12, c13⟩ := id C
    obtain ⟨_, u0, u1, u2, fu0, fu1, fu2⟩ := id U
    go_wp2_with fail
    refine (cc _ T).mono ?_
    rintro e w4 ⟨rfl, hb⟩
    replace C := C.kept hb
    replace B := bthen B hb
    replace T := T.kept hb
    replace U := U.kept hb
    clear hb c0 c1 c2 c3 c4 c5 c6 c7 c8 c9 c10 c11 c12 c13 u0 u1 u2 fu0 fu1 fu2
    obtain ⟨_, c0, c1, c2, c3, c4, c5, c6, c7, c8, c9, c10, c11, c12, c13⟩ := id C
    obtain ⟨_, u0, u1, u2, fu0, fu1, fu2⟩ := id U
    go_wp2
    go_ret2
    exact ⟨by simp, B⟩

end Go.Proofs.YtkfogmaogfgcgaaGreatDoor.Bp

