/- TwinParts' walk. -/
import Derived.Test.YtoeifpeiogeenaaGreatDoorJR
import Derived.Test.YtoeifpeiogeenaaGreatDoorBparts
import Derived.Test.YtoeifpeiogeenaaGreatDoorIcode9
import Derived.Test.YtoeifpeiogeenaaGreatDoorUapp
import Derived.Maps.AppendAt
import Derived.Maps.OwnIn
namespace Go.Proofs.YtoeifpeiogeenaaGreatDoor.Bl
set_option linter.unusedSimpArgs false
set_option linter.unusedVariables false
open Go.RowKit Go.Maps Go.Proofs.YtoeifpeiogeenaaGreatDoor.Bn Go.Proofs.YtoeifpeiogeenaaGreatDoor.Bx Go.Proofs.YtoeifpeiogeenaaGreatDoor.Cp Go.Proofs.YtoeifpeiogeenaaGreatDoor.Am Go.Proofs.YtoeifpeiogeenaaGreatDoor.Fp Go.Proofs.YtoeifpeiogeenaaGreatDoor.Ap Go.Proofs.YtoeifpeiogeenaaGreatDoor.Cm Go.Proofs.YtoeifpeiogeenaaGreatDoor.Em Go.Proofs.YtoeifpeiogeenaaGreatDoor.Ep Go.Proofs.YtoeifpeiogeenaaGreatDoor.Rk Go.Proofs.YtoeifpeiogeenaaGreatDoor.Hp Go.Proofs.YtoeifpeiogeenaaGreatDoor.Ip Go.Proofs.YtoeifpeiogeenaaGreatDoor.Jp Go.Proofs.YtoeifpeiogeenaaGreatDoor.Dp Go.Proofs.YtoeifpeiogeenaaGreatDoor.Mp Go.Proofs.YtoeifpeiogeenaaGreatDoor.Bp

set_option maxHeartbeats 16000000

theorem bunit_neq (a b c a' b' c' : Int) (w : World) :
    (binOp .neq 26 (.agg #[.int .i64 a, .int .i64 b, .int .i64 c]) (.agg #[.int .i64 a', .int .i64 b', .int .i64 c'])).run Tryz.prog w = .ok (.bool (!decide (a = a' ∧ b = b' ∧ c = c'))) w := by
  by_cases h1 : a = a'
  · by_cases h2 : b = b'
    · by_cases h3 : c = c'
      · subst h1 h2 h3; simp [go_sem]
      · simp [go_sem, h1, h2, h3]
    · simp [go_sem, h1, h2]
  · simp [go_sem, h1]

set_option maxRecDepth 100000 in
theorem same_units0 (g1 g2 N c1 c2 : Nat) (l : List U3) (w : World) (hN : l.length = N) (N1 : N ≤ 1000000) (R1 : Urow w g1 l) (R2 : Urow w g2 l) :
    Calls Tryz.prog 50 #[.slice (some ⟨g1, 0, none⟩) N c1, .slice (some ⟨g2, 0, none⟩) N c2] w fun e w' => e = .returned (.bool true) ∧ Below w.heap.size w w' := by
  have e0 : ((N : Int) != (N : Int)) = false := by simp
  have HN := Lib.hid hN
  clear hN
  go_enter Tryz.func50, Tryz.ntmps50
  go_wp2
  go_loopw [13] (fun Y wr => ∃ k : Nat, k ≤ N ∧ Y = .int .i64 (k : Int) ∧ Below w.heap.size w wr) (fun Y _ => N - (intOf Y).toNat)
  case atStart => exact ⟨0, by omega, rfl, Below.refl _ _⟩
  case round =>
    obtain ⟨k, kN, rfl, B2⟩ := hrel
    by_cases hlt : k < N
    · obtain ⟨⟨x, y, z⟩, hu⟩ : ∃ u, l[k]? = some u := ⟨_, List.getElem?_eq_getElem (by rw [HN.out]; exact hlt)⟩
      obtain ⟨r0, r1, r2⟩ := (R1.kept B2).c k _ hu
      obtain ⟨s0, s1, s2⟩ := (R2.kept B2).c k _ hu
      simp only at r0 r1 r2 s0 s1 s2
      have hq := fun w => bunit_neq x y z x y z w
      rw [show (!decide (x = x ∧ y = y ∧ z = z)) = false by simp] at hq
      have kk : (k : Int) < (N : Int) := by omega
      go_upto_region 6 with fail
      go_quiet (fail)
      go_wp2
      go_roundw
      case rel => exact ⟨k + 1, by omega, by go_num, bdrewN B2 _⟩
      case measure => simp [intOf]; omega
    · obtain rfl : k = N := by omega
      have kk : decide ((k : Int) < (k : Int)) = false := decide_eq_false (by omega)
      go_wp2
      go_ret
      exact ⟨rfl, B2⟩

set_option maxRecDepth 100000 in
theorem same_units (g1 g2 N c1 c2 : Nat) (l : List U3) (w : World) (N1 : N ≤ 1000000) (hN : l.length = N) (R1 : Urow w g1 l) (R2 : Urow w g2 l) :
    Calls Tryz.prog 23 #[.slice (some ⟨g1, 0, none⟩) N c1, .slice (some ⟨g2, 0, none⟩) N c2] w fun e w' => e = .returned (.bool true) ∧ Below w.heap.size w w' := by
  have cs := same_units0 g1 g2 N c1 c2 l w hN N1 R1 R2
  clear R1 R2 hN
  go_enter Tryz.func23, Tryz.ntmps23
  go_wp2_with fail
  refine cs.mono ?_
  rintro e w1 ⟨rfl, hb⟩
  go_wp2
  go_ret
  exact ⟨rfl, hb⟩

theorem holds_urow {W : World} {g cap : Nat} {l : List U3} (R : Urow W g l) : Go.Proofs.YtoeifpeiogeenaaGreatDoor.Rk.Holds W 3 (.slice (some ⟨g, 0, none⟩) l.length cap) l.length (ucells l) := by
  refine ⟨_, _, rfl, ucells_len l, one_ucells l, .inr ⟨_, rfl, fun j x hj => ?_⟩⟩
  have hjl : j < l.length * 3 := by rw [← ucells_len]; exact (List.getElem?_eq_some_iff.1 hj).1
  obtain ⟨u, hu⟩ : ∃ u, l[j / 3]? = some u := ⟨_, List.getElem?_eq_getElem (by omega)⟩
  have c := R.c _ u hu
  have a := ucells_at hu
  have ad : ∀ m, (Addr.add ⟨g, 0, none⟩ m : Addr) = ⟨g, m, none⟩ := fun m => by unfold Addr.add; by_cases e : m = 0 <;> simp [e]
  rw [ad]
  have m3 : j % 3 = 0 ∨ j % 3 = 1 ∨ j % 3 = 2 := by omega
  rcases m3 with m | m | m
  · have e : j = j / 3 * 3 := by omega
    rw [e] at hj ⊢
    rw [a.1] at hj
    rw [← hj]; exact c.1
  · have e : j = j / 3 * 3 + 1 := by omega
    rw [e] at hj ⊢
    rw [a.2.1] at hj
    rw [← hj]; exact c.2.1
  · have e : j = j / 3 * 3 + 2 := by omega
    rw [e] at hj ⊢
    rw [a.2.2] at hj
    rw [← hj]; exact c.2.2
theorem put3 {EL : TypeId} {w W W2 : World} {v v' : Value} {l k : List U3} (X : One3 EL w W v l) (h1 : W2.ownsRow w.heap.size EL 3 v' (l.length + k.length) (ucells l ++ ucells k)) (r1 : W.grownBy W2 v.ownBlock) : One3 EL w W2 v' (l ++ k) :=
  ⟨below_grown X.below r1 (fun x e => (row_lt X.a e).1) (Nat.le_refl _), by rw [List.length_append, ucells_app2]; exact h1⟩

set_option maxRecDepth 100000 in
theorem parts_out (c : CalZ) (L y i k M : Int) (w : World) (tb : FTab w) (h : 100 < c.nm.size ∨ (c.k = 6 ∧ M = 5)) :
    Calls Tryz.prog 7 #[.agg #[.string c.nm, .int .i64 c.k, .int .i64 c.d, .int .i64 c.m, .int .i64 c.s, .int .i64 c.sh, .int .i64 c.p0, .int .i64 c.p1, .int .i64 c.p2, .int .i64 c.cy, .int .i64 c.ex, .int .i64 c.fi, .int .i64 c.la, .int .i64 c.po], .agg #[.int .i64 L, .int .i64 y, .int .i64 i], .int .i64 k, .int .i64 M] w fun e w' => e = .returned (.bool true) ∧ Below w.heap.size w w' := by
  have T := tb
  have C := CalIn.new w c 24
  have B := balloc (Below.refl _ w) (.cells #[.string c.nm, .int .i64 c.k, .int .i64 c.d, .int .i64 c.m, .int .i64 c.s, .int .i64 c.sh, .int .i64 c.p0, .int .i64 c.p1, .int .i64 c.p2, .int .i64 c.cy, .int .i64 c.ex, .int .i64 c.fi, .int .i64 c.la, .int .i64 c.po] 24)
  replace T := T.alloc (.cells #[.string c.nm, .int .i64 c.k, .int .i64 c.d, .int .i64 c.m, .int .i64 c.s, .int .i64 c.sh, .int .i64 c.p0, .int .i64 c.p1, .int .i64 c.p2, .int .i64 c.cy, .int .i64 c.ex, .int .i64 c.fi, .int .i64 c.la, .int .i64 c.po] 24)
  have U := Go.Proofs.YtoeifpeiogeenaaGreatDoor.Bx.Tri.new (w.alloc (.cells #[.string c.nm, .int .i64 c.k, .int .i64 c.d, .int .i64 c.m, .int .i64 c.s, .int .i64 c.sh, .int .i64 c.p0, .int .i64 c.p1, .int .i64 c.p2, .int .i64 c.cy, .int .i64 c.ex, .int .i64 c.fi, .int .i64 c.la, .int .i64 c.po] 24)) (.int .i64 L) (.int .i64 y) (.int .i64 i) 26
  rw [World.size_alloc] at U
  replace C := C.alloc (.cells #[.int .i64 L, .int .i64 y, .int .i64 i] 26)
  replace B := balloc B (.cells #[.int .i64 L, .int .i64 y, .int .i64 i] 26)
  replace T := T.alloc (.cells #[.int .i64 L, .int .i64 y, .int .i64 i] 26)
  have O : decide ((100 : Int) < (c.nm.size : Int)) = true ∨ (decide ((100 : Int) < (c.nm.size : Int)) = false ∧ (c.k == 6) = true ∧ (M == 5) = true) := by
    by_cases h1 : 100 < c.nm.size
    · exact .inl (decide_eq_true (by omega))
    · exact .inr ⟨decide_eq_false (by omega), beq_iff_eq.2 (by omega), beq_iff_eq.2 (by omega)⟩
  clear h
  rcases O with dl | ⟨dl, d6, d5⟩
  all_goals
    go_enter Tryz.func7, Tryz.ntmps7
    go_upto_region 1 with fail
    generalize (w.alloc (.cells #[.string c.nm, .int .i64 c.k, .int .i64 c.d, .int .i64 c.m, .int .i64 c.s, .int .i64 c.sh, .int .i64 c.p0, .int .i64 c.p1, .int .i64 c.p2, .int .i64 c.cy, .int .i64 c.ex, .int .i64 c.fi, .int .i64 c.la, .int .i64 c.po] 24)).alloc (.cells #[.int .i64 L, .int .i64 y, .int .i64 i] 26) = W0 at *
    obtain ⟨_, c0, c1, c2, c3, c4, c5, c6, c7, c8, c9, c10, c11, c12, c13⟩ := id C
    obtain ⟨_, u0, u1, u2, fu0, fu1, fu2⟩ := id U
    go_wp2_with fail
    refine (blive_ok _ T).mono ?_
    rintro e w1 ⟨rfl, hb⟩
    replace C := C.kept hb
    replace B := bthen B hb
    replace T := T.kept hb
    replace U := U.kept hb
    clear hb c0 c1 c2 c3 c4 c5 c6 c7 c8 c9 c10 c11 c12 c13 u0 u1 u2 fu0 fu1 fu2
    obtain ⟨_, c0, c1, c2, c3, c4, c5, c6, c7, c8, c9, c10, c11, c12, c13⟩ := id C
    obtain ⟨_, u0, u1, u2, fu0, fu1, fu2⟩ := id U
    go_wp2
    go_ret
    exact ⟨by simp <;> omega, B⟩

set_option maxRecDepth 100000 in
theorem parts_er (c : CalZ) (L y i k M er p q a b er2 : Int) (l : List U3) (w : World) (tb : FTab w) (wk : (Lit.int .i64 k).wf = true) (hm : c.nm.size ≤ maxLen) (dl : decide ((100 : Int) < (c.nm.size : Int)) = false) (O : ((c.k == 6) = false ∨ ((c.k == 6) = true ∧ (M == 5) = false))) (R : TwA c L y i k l er) (ne : er ≠ 0) (D : DownA c L y i M p q a b er2) :
    Calls Tryz.prog 7 #[.agg #[.string c.nm, .int .i64 c.k, .int .i64 c.d, .int .i64 c.m, .int .i64 c.s, .int .i64 c.sh, .int .i64 c.p0, .int .i64 c.p1, .int .i64 c.p2, .int .i64 c.cy, .int .i64 c.ex, .int .i64 c.fi, .int .i64 c.la, .int .i64 c.po], .agg #[.int .i64 L, .int .i64 y, .int .i64 i], .int .i64 k, .int .i64 M] w fun e w' => e = .returned (.bool true) ∧ Below w.heap.size w w' := by
  have T := tb
  have C := CalIn.new w c 24
  have B := balloc (Below.refl _ w) (.cells #[.string c.nm, .int .i64 c.k, .int .i64 c.d, .int .i64 c.m, .int .i64 c.s, .int .i64 c.sh, .int .i64 c.p0, .int .i64 c.p1, .int .i64 c.p2, .int .i64 c.cy, .int .i64 c.ex, .int .i64 c.fi, .int .i64 c.la, .int .i64 c.po] 24)
  replace T := T.alloc (.cells #[.string c.nm, .int .i64 c.k, .int .i64 c.d, .int .i64 c.m, .int .i64 c.s, .int .i64 c.sh, .int .i64 c.p0, .int .i64 c.p1, .int .i64 c.p2, .int .i64 c.cy, .int .i64 c.ex, .int .i64 c.fi, .int .i64 c.la, .int .i64 c.po] 24)
  have U := Go.Proofs.YtoeifpeiogeenaaGreatDoor.Bx.Tri.new (w.alloc (.cells #[.string c.nm, .int .i64 c.k, .int .i64 c.d, .int .i64 c.m, .int .i64 c.s, .int .i64 c.sh, .int .i64 c.p0, .int .i64 c.p1, .int .i64 c.p2, .int .i64 c.cy, .int .i64 c.ex, .int .i64 c.fi, .int .i64 c.la, .int .i64 c.po] 24)) (.int .i64 L) (.int .i64 y) (.int .i64 i) 26
  rw [World.size_alloc] at U
  replace C := C.alloc (.cells #[.int .i64 L, .int .i64 y, .int .i64 i] 26)
  replace B := balloc B (.cells #[.int .i64 L, .int .i64 y, .int .i64 i] 26)
  replace T := T.alloc (.cells #[.int .i64 L, .int .i64 y, .int .i64 i] 26)
  have cw := fun w T => Weeks_er c L y i k er l w R ne wk hm T
  have cd := fun w T => Down_any c L y i M p q a b er2 w D hm T
  have n1 : (er != 0) = true := bne_iff_ne.2 ne
  have n2 : (er == 0) = false := beq_eq_false_iff_ne.2 ne
  clear R ne D
  rcases O with o1 | ⟨o1, o2⟩
  all_goals
    go_enter Tryz.func7, Tryz.ntmps7
    go_upto_region 1 with fail
    generalize (w.alloc (.cells #[.string c.nm, .int .i64 c.k, .int .i64 c.d, .int .i64 c.m, .int .i64 c.s, .int .i64 c.sh, .int .i64 c.p0, .int .i64 c.p1, .int .i64 c.p2, .int .i64 c.cy, .int .i64 c.ex, .int .i64 c.fi, .int .i64 c.la, .int .i64 c.po] 24)).alloc (.cells #[.int .i64 L, .int .i64 y, .int .i64 i] 26) = W0 at *
    obtain ⟨_, c0, c1, c2, c3, c4, c5, c6, c7, c8, c9, c10, c11, c12, c13⟩ := id C
    obtain ⟨_, u0, u1, u2, fu0, fu1, fu2⟩ := id U
    go_wp2_with fail
    refine (blive_ok _ T).mono ?_
    rintro e w1 ⟨rfl, hb⟩
    replace C := C.kept hb
    replace B := bthen B hb
    replace T := T.kept hb
    replace U := U.kept hb
    clear hb c0 c1 c2 c3 c4 c5 c6 c7 c8 c9 c10 c11 c12 c13 u0 u1 u2 fu0 fu1 fu2
    obtain ⟨_, c0, c1, c2, c3, c4, c5, c6, c7, c8, c9, c10, c11, c12, c13⟩ := id C
    obtain ⟨_, u0, u1, u2, fu0, fu1, fu2⟩ := id U
    go_wp2_with fail
    refine (cw _ T).mono ?_
    rintro e w2 ⟨rfl, hb⟩
    replace C := C.kept hb
    replace B := bthen B hb
    replace T := T.kept hb
    replace U := U.kept hb
    clear hb c0 c1 c2 c3 c4 c5 c6 c7 c8 c9 c10 c11 c12 c13 u0 u1 u2 fu0 fu1 fu2
    obtain ⟨_, c0, c1, c2, c3, c4, c5, c6, c7, c8, c9, c10, c11, c12, c13⟩ := id C
    obtain ⟨_, u0, u1, u2, fu0, fu1, fu2⟩ := id U
    go_wp2_with fail
    refine (cd _ T).mono ?_
    rintro e w3 ⟨rfl, hb⟩
    replace C := C.kept hb
    replace B := bthen B hb
    replace T := T.kept hb
    replace U := U.kept hb
    clear hb c0 c1 c2 c3 c4 c5 c6 c7 c8 c9 c10 c11 c12 c13 u0 u1 u2 fu0 fu1 fu2
    obtain ⟨_, c0, c1, c2, c3, c4, c5, c6, c7, c8, c9, c10, c11, c12, c13⟩ := id C
    obtain ⟨_, u0, u1, u2, fu0, fu1, fu2⟩ := id U
    have V := Go.Proofs.YtoeifpeiogeenaaGreatDoor.Bx.Tri.new w3 (.int .i64 p) (.int .i64 q) (.int .i64 a) 26
    replace C := C.alloc (.cells #[.int .i64 p, .int .i64 q, .int .i64 a] 26)
    replace T := T.alloc (.cells #[.int .i64 p, .int .i64 q, .int .i64 a] 26)
    replace U := U.alloc (.cells #[.int .i64 p, .int .i64 q, .int .i64 a] 26)
    replace B := balloc B (.cells #[.int .i64 p, .int .i64 q, .int .i64 a] 26)
    clear c0 c1 c2 c3 c4 c5 c6 c7 c8 c9 c10 c11 c12 c13 u0 u1 u2 fu0 fu1 fu2
    obtain ⟨_, c0, c1, c2, c3, c4, c5, c6, c7, c8, c9, c10, c11, c12, c13⟩ := id C
    obtain ⟨_, u0, u1, u2, fu0, fu1, fu2⟩ := id U
    obtain ⟨_, v0, v1, v2, fv0, fv1, fv2⟩ := id V
    have X := Go.Proofs.YtoeifpeiogeenaaGreatDoor.Bx.Tri.new (w3.alloc (.cells #[.int .i64 p, .int .i64 q, .int .i64 a] 26)) (.int .i64 p) (.int .i64 q) (.int .i64 b) 26
    rw [World.size_alloc] at X
    replace C := C.alloc (.cells #[.int .i64 p, .int .i64 q, .int .i64 b] 26)
    replace T := T.alloc (.cells #[.int .i64 p, .int .i64 q, .int .i64 b] 26)
    replace U := U.alloc (.cells #[.int .i64 p, .int .i64 q, .int .i64 b] 26)
    replace V := V.alloc (.cells #[.int .i64 p, .int .i64 q, .int .i64 b] 26)
    replace B := balloc B (.cells #[.int .i64 p, .int .i64 q, .int .i64 b] 26)
    clear c0 c1 c2 c3 c4 c5 c6 c7 c8 c9 c10 c11 c12 c13 u0 u1 u2 fu0 fu1 fu2 v0 v1 v2 fv0 fv1 fv2
    obtain ⟨_, c0, c1, c2, c3, c4, c5, c6, c7, c8, c9, c10, c11, c12, c13⟩ := id C
    obtain ⟨_, u0, u1, u2, fu0, fu1, fu2⟩ := id U
    obtain ⟨_, v0, v1, v2, fv0, fv1, fv2⟩ := id V
    obtain ⟨_, x0, x1, x2, fx0, fx1, fx2⟩ := id X
    go_wp2
    go_ret
    exact ⟨by simp <;> omega, B⟩

set_option maxRecDepth 100000 in
theorem parts_ef (c : CalZ) (L y i k M p q a b er2 : Int) (l : List U3) (w : World) (tb : FTab w) (wk : (Lit.int .i64 k).wf = true) (hm : c.nm.size ≤ maxLen) (dl : decide ((100 : Int) < (c.nm.size : Int)) = false) (O : ((c.k == 6) = false ∨ ((c.k == 6) = true ∧ (M == 5) = false))) (R : TwA c L y i k l 0) (D : DownA c L y i M p q a b er2) (ne : er2 ≠ 0) :
    Calls Tryz.prog 7 #[.agg #[.string c.nm, .int .i64 c.k, .int .i64 c.d, .int .i64 c.m, .int .i64 c.s, .int .i64 c.sh, .int .i64 c.p0, .int .i64 c.p1, .int .i64 c.p2, .int .i64 c.cy, .int .i64 c.ex, .int .i64 c.fi, .int .i64 c.la, .int .i64 c.po], .agg #[.int .i64 L, .int .i64 y, .int .i64 i], .int .i64 k, .int .i64 M] w fun e w' => e = .returned (.bool true) ∧ Below w.heap.size w w' := by
  have T := tb
  have C := CalIn.new w c 24
  have B := balloc (Below.refl _ w) (.cells #[.string c.nm, .int .i64 c.k, .int .i64 c.d, .int .i64 c.m, .int .i64 c.s, .int .i64 c.sh, .int .i64 c.p0, .int .i64 c.p1, .int .i64 c.p2, .int .i64 c.cy, .int .i64 c.ex, .int .i64 c.fi, .int .i64 c.la, .int .i64 c.po] 24)
  replace T := T.alloc (.cells #[.string c.nm, .int .i64 c.k, .int .i64 c.d, .int .i64 c.m, .int .i64 c.s, .int .i64 c.sh, .int .i64 c.p0, .int .i64 c.p1, .int .i64 c.p2, .int .i64 c.cy, .int .i64 c.ex, .int .i64 c.fi, .int .i64 c.la, .int .i64 c.po] 24)
  have U := Go.Proofs.YtoeifpeiogeenaaGreatDoor.Bx.Tri.new (w.alloc (.cells #[.string c.nm, .int .i64 c.k, .int .i64 c.d, .int .i64 c.m, .int .i64 c.s, .int .i64 c.sh, .int .i64 c.p0, .int .i64 c.p1, .int .i64 c.p2, .int .i64 c.cy, .int .i64 c.ex, .int .i64 c.fi, .int .i64 c.la, .int .i64 c.po] 24)) (.int .i64 L) (.int .i64 y) (.int .i64 i) 26
  rw [World.size_alloc] at U
  replace C := C.alloc (.cells #[.int .i64 L, .int .i64 y, .int .i64 i] 26)
  replace B := balloc B (.cells #[.int .i64 L, .int .i64 y, .int .i64 i] 26)
  replace T := T.alloc (.cells #[.int .i64 L, .int .i64 y, .int .i64 i] 26)
  have cw := fun w T => Weeks_ok c L y i k l w R hm T
  have cd := fun w T => Down_any c L y i M p q a b er2 w D hm T
  have n1 : (er2 != 0) = true := bne_iff_ne.2 ne
  clear R ne D
  rcases O with o1 | ⟨o1, o2⟩
  all_goals
    go_enter Tryz.func7, Tryz.ntmps7
    go_upto_region 1 with fail
    generalize (w.alloc (.cells #[.string c.nm, .int .i64 c.k, .int .i64 c.d, .int .i64 c.m, .int .i64 c.s, .int .i64 c.sh, .int .i64 c.p0, .int .i64 c.p1, .int .i64 c.p2, .int .i64 c.cy, .int .i64 c.ex, .int .i64 c.fi, .int .i64 c.la, .int .i64 c.po] 24)).alloc (.cells #[.int .i64 L, .int .i64 y, .int .i64 i] 26) = W0 at *
    obtain ⟨_, c0, c1, c2, c3, c4, c5, c6, c7, c8, c9, c10, c11, c12, c13⟩ := id C
    obtain ⟨_, u0, u1, u2, fu0, fu1, fu2⟩ := id U
    go_wp2_with fail
    refine (blive_ok _ T).mono ?_
    rintro e w1 ⟨rfl, hb⟩
    replace C := C.kept hb
    replace B := bthen B hb
    replace T := T.kept hb
    replace U := U.kept hb
    clear hb c0 c1 c2 c3 c4 c5 c6 c7 c8 c9 c10 c11 c12 c13 u0 u1 u2 fu0 fu1 fu2
    obtain ⟨_, c0, c1, c2, c3, c4, c5, c6, c7, c8, c9, c10, c11, c12, c13⟩ := id C
    obtain ⟨_, u0, u1, u2, fu0, fu1, fu2⟩ := id U
    go_wp2_with fail
    refine (cw _ T).mono ?_
    rintro e w2 ⟨g, cap, rfl, Rw, hg, hb, hcap⟩
    replace C := C.kept hb
    replace B := bthen B hb
    replace T := T.kept hb
    replace U := U.kept hb
    clear hb c0 c1 c2 c3 c4 c5 c6 c7 c8 c9 c10 c11 c12 c13 u0 u1 u2 fu0 fu1 fu2
    obtain ⟨_, c0, c1, c2, c3, c4, c5, c6, c7, c8, c9, c10, c11, c12, c13⟩ := id C
    obtain ⟨_, u0, u1, u2, fu0, fu1, fu2⟩ := id U
    clear hg hcap
    go_wp2_with fail
    refine (cd _ T).mono ?_
    rintro e w3 ⟨rfl, hb⟩
    replace C := C.kept hb
    replace B := bthen B hb
    replace T := T.kept hb
    replace U := U.kept hb
    clear hb c0 c1 c2 c3 c4 c5 c6 c7 c8 c9 c10 c11 c12 c13 u0 u1 u2 fu0 fu1 fu2
    obtain ⟨_, c0, c1, c2, c3, c4, c5, c6, c7, c8, c9, c10, c11, c12, c13⟩ := id C
    obtain ⟨_, u0, u1, u2, fu0, fu1, fu2⟩ := id U
    have V := Go.Proofs.YtoeifpeiogeenaaGreatDoor.Bx.Tri.new w3 (.int .i64 p) (.int .i64 q) (.int .i64 a) 26
    replace C := C.alloc (.cells #[.int .i64 p, .int .i64 q, .int .i64 a] 26)
    replace T := T.alloc (.cells #[.int .i64 p, .int .i64 q, .int .i64 a] 26)
    replace U := U.alloc (.cells #[.int .i64 p, .int .i64 q, .int .i64 a] 26)
    replace B := balloc B (.cells #[.int .i64 p, .int .i64 q, .int .i64 a] 26)
    clear c0 c1 c2 c3 c4 c5 c6 c7 c8 c9 c10 c11 c12 c13 u0 u1 u2 fu0 fu1 fu2
    obtain ⟨_, c0, c1, c2, c3, c4, c5, c6, c7, c8, c9, c10, c11, c12, c13⟩ := id C
    obtain ⟨_, u0, u1, u2, fu0, fu1, fu2⟩ := id U
    obtain ⟨_, v0, v1, v2, fv0, fv1, fv2⟩ := id V
    have X := Go.Proofs.YtoeifpeiogeenaaGreatDoor.Bx.Tri.new (w3.alloc (.cells #[.int .i64 p, .int .i64 q, .int .i64 a] 26)) (.int .i64 p) (.int .i64 q) (.int .i64 b) 26
    rw [World.size_alloc] at X
    replace C := C.alloc (.cells #[.int .i64 p, .int .i64 q, .int .i64 b] 26)
    replace T := T.alloc (.cells #[.int .i64 p, .int .i64 q, .int .i64 b] 26)
    replace U := U.alloc (.cells #[.int .i64 p, .int .i64 q, .int .i64 b] 26)
    replace V := V.alloc (.cells #[.int .i64 p, .int .i64 q, .int .i64 b] 26)
    replace B := balloc B (.cells #[.int .i64 p, .int .i64 q, .int .i64 b] 26)
    clear c0 c1 c2 c3 c4 c5 c6 c7 c8 c9 c10 c11 c12 c13 u0 u1 u2 fu0 fu1 fu2 v0 v1 v2 fv0 fv1 fv2
    obtain ⟨_, c0, c1, c2, c3, c4, c5, c6, c7, c8, c9, c10, c11, c12, c13⟩ := id C
    obtain ⟨_, u0, u1, u2, fu0, fu1, fu2⟩ := id U
    obtain ⟨_, v0, v1, v2, fv0, fv1, fv2⟩ := id V
    obtain ⟨_, x0, x1, x2, fx0, fx1, fx2⟩ := id X
    go_wp2
    go_ret
    exact ⟨by simp <;> omega, B⟩

set_option maxRecDepth 100000 in
theorem parts_ok1 (c : CalZ) (L y i k M a b : Int) (l : List U3) (pre : Nat → List U3) (n : Nat) (w : World) (tb : FTab w) (wk : (Lit.int .i64 k).wf = true) (hm : c.nm.size ≤ maxLen) (dl : decide ((100 : Int) < (c.nm.size : Int)) = false) (o1 : (c.k == 6) = false) (R : TwA c L y i k l 0) (D : DownA c L y i M M y a b 0) (l0 : 1 ≤ l.length) (l1 : l.length ≤ 60)
    (hn : (n : Int) = b - a + 1) (a1 : 1 ≤ a) (n1 : 1 ≤ n) (b60 : b ≤ 60) (p0 : pre 0 = []) (pn : pre n = l) (HP : ∀ j : Nat, j < n → ∃ lj ej, TwA c M y (a + j) k lj ej ∧ (ej = 0 ∨ (ej = 12 ∧ lj = [])) ∧ pre (j + 1) = pre j ++ lj) (pl : ∀ j, j ≤ n → (pre j).length ≤ 60) :
    Calls Tryz.prog 7 #[.agg #[.string c.nm, .int .i64 c.k, .int .i64 c.d, .int .i64 c.m, .int .i64 c.s, .int .i64 c.sh, .int .i64 c.p0, .int .i64 c.p1, .int .i64 c.p2, .int .i64 c.cy, .int .i64 c.ex, .int .i64 c.fi, .int .i64 c.la, .int .i64 c.po], .agg #[.int .i64 L, .int .i64 y, .int .i64 i], .int .i64 k, .int .i64 M] w fun e w' => e = .returned (.bool true) ∧ Below w.heap.size w w' := by
  obtain ⟨i0, hi, hz0, hz1, hz2⟩ := info_parts infoU
  have T := tb
  have C := CalIn.new w c 24
  have B := balloc (Below.refl _ w) (.cells #[.string c.nm, .int .i64 c.k, .int .i64 c.d, .int .i64 c.m, .int .i64 c.s, .int .i64 c.sh, .int .i64 c.p0, .int .i64 c.p1, .int .i64 c.p2, .int .i64 c.cy, .int .i64 c.ex, .int .i64 c.fi, .int .i64 c.la, .int .i64 c.po] 24)
  replace T := T.alloc (.cells #[.string c.nm, .int .i64 c.k, .int .i64 c.d, .int .i64 c.m, .int .i64 c.s, .int .i64 c.sh, .int .i64 c.p0, .int .i64 c.p1, .int .i64 c.p2, .int .i64 c.cy, .int .i64 c.ex, .int .i64 c.fi, .int .i64 c.la, .int .i64 c.po] 24)
  have U := Go.Proofs.YtoeifpeiogeenaaGreatDoor.Bx.Tri.new (w.alloc (.cells #[.string c.nm, .int .i64 c.k, .int .i64 c.d, .int .i64 c.m, .int .i64 c.s, .int .i64 c.sh, .int .i64 c.p0, .int .i64 c.p1, .int .i64 c.p2, .int .i64 c.cy, .int .i64 c.ex, .int .i64 c.fi, .int .i64 c.la, .int .i64 c.po] 24)) (.int .i64 L) (.int .i64 y) (.int .i64 i) 26
  rw [World.size_alloc] at U
  replace C := C.alloc (.cells #[.int .i64 L, .int .i64 y, .int .i64 i] 26)
  replace B := balloc B (.cells #[.int .i64 L, .int .i64 y, .int .i64 i] 26)
  replace T := T.alloc (.cells #[.int .i64 L, .int .i64 y, .int .i64 i] 26)
  have cw := fun w T => Weeks_ok c L y i k l w R hm T
  have cd := fun w T => Down_any c L y i M M y a b 0 w D hm T
  have HQ : Hid (∀ j : Nat, j < n → ∃ lj : List U3, pre (j + 1) = pre j ++ lj ∧ lj.length ≤ 60 ∧ ((lj = [] ∧ ∀ w, FTab w → Calls Tryz.prog 16 #[.agg #[.string c.nm, .int .i64 c.k, .int .i64 c.d, .int .i64 c.m, .int .i64 c.s, .int .i64 c.sh, .int .i64 c.p0, .int .i64 c.p1, .int .i64 c.p2, .int .i64 c.cy, .int .i64 c.ex, .int .i64 c.fi, .int .i64 c.la, .int .i64 c.po], .agg #[.int .i64 M, .int .i64 y, .int .i64 (a + (j : Int))], .int .i64 k] w fun e w' => e = .returned (.tuple #[.slice none 0 0, .int .i64 12]) ∧ Below w.heap.size w w') ∨
      ∀ w, FTab w → Calls Tryz.prog 16 #[.agg #[.string c.nm, .int .i64 c.k, .int .i64 c.d, .int .i64 c.m, .int .i64 c.s, .int .i64 c.sh, .int .i64 c.p0, .int .i64 c.p1, .int .i64 c.p2, .int .i64 c.cy, .int .i64 c.ex, .int .i64 c.fi, .int .i64 c.la, .int .i64 c.po], .agg #[.int .i64 M, .int .i64 y, .int .i64 (a + (j : Int))], .int .i64 k] w (UnitsTo w lj))) := Lib.hid (fun j hj => by
    obtain ⟨lj, ej, R2, h1, h2⟩ := HP j hj
    have := pl (j + 1) (by omega)
    rw [h2, List.length_append] at this
    refine ⟨lj, h2, by omega, ?_⟩
    rcases h1 with rfl | ⟨rfl, h3⟩
    · exact .inr (fun w T => Weeks_ok c M y (a + j) k lj w R2 hm T)
    · exact .inl ⟨h3, fun w T => Weeks_er c M y (a + j) k 12 lj w R2 (by decide) wk hm T⟩)
  have HL := Lib.hid pl
  have H0 := Lib.hid p0
  have HN := Lib.hid pn
  have hn2 := Lib.hid hn
  obtain ⟨N, hN⟩ : ∃ N, l.length = N := ⟨_, rfl⟩
  have HNN := Lib.hid hN
  have qb : 1 ≤ b := by omega
  have qa : a ≤ 60 := by omega
  have qn : (n : Int) ≤ 60 := by omega
  clear R D HP pl p0 pn hn
  rw [hN] at l0 l1
  go_enter Tryz.func7, Tryz.ntmps7
  go_upto_region 1 with fail
  generalize (w.alloc (.cells #[.string c.nm, .int .i64 c.k, .int .i64 c.d, .int .i64 c.m, .int .i64 c.s, .int .i64 c.sh, .int .i64 c.p0, .int .i64 c.p1, .int .i64 c.p2, .int .i64 c.cy, .int .i64 c.ex, .int .i64 c.fi, .int .i64 c.la, .int .i64 c.po] 24)).alloc (.cells #[.int .i64 L, .int .i64 y, .int .i64 i] 26) = W0 at *
  obtain ⟨_, c0, c1, c2, c3, c4, c5, c6, c7, c8, c9, c10, c11, c12, c13⟩ := id C
  obtain ⟨_, u0, u1, u2, fu0, fu1, fu2⟩ := id U
  go_wp2_with fail
  refine (blive_ok _ T).mono ?_
  rintro e w1 ⟨rfl, hb⟩
  replace C := C.kept hb
  replace B := bthen B hb
  replace T := T.kept hb
  replace U := U.kept hb
  clear hb c0 c1 c2 c3 c4 c5 c6 c7 c8 c9 c10 c11 c12 c13 u0 u1 u2 fu0 fu1 fu2
  obtain ⟨_, c0, c1, c2, c3, c4, c5, c6, c7, c8, c9, c10, c11, c12, c13⟩ := id C
  obtain ⟨_, u0, u1, u2, fu0, fu1, fu2⟩ := id U
  go_wp2_with fail
  refine (cw _ T).mono ?_
  rintro e w2 ⟨g, cap, rfl, Rw, hg, hb, hcap⟩
  replace C := C.kept hb
  replace B := bthen B hb
  replace T := T.kept hb
  replace U := U.kept hb
  clear hb c0 c1 c2 c3 c4 c5 c6 c7 c8 c9 c10 c11 c12 c13 u0 u1 u2 fu0 fu1 fu2
  obtain ⟨_, c0, c1, c2, c3, c4, c5, c6, c7, c8, c9, c10, c11, c12, c13⟩ := id C
  obtain ⟨_, u0, u1, u2, fu0, fu1, fu2⟩ := id U
  rw [hN]
  clear hg hcap hN
  obtain ⟨_, _⟩ := id Rw
  go_wp2_with fail
  refine (cd _ T).mono ?_
  rintro e w3 ⟨rfl, hb⟩
  replace C := C.kept hb
  replace B := bthen B hb
  replace T := T.kept hb
  replace U := U.kept hb
  replace Rw := Rw.kept hb
  clear hb c0 c1 c2 c3 c4 c5 c6 c7 c8 c9 c10 c11 c12 c13 u0 u1 u2 fu0 fu1 fu2
  obtain ⟨_, c0, c1, c2, c3, c4, c5, c6, c7, c8, c9, c10, c11, c12, c13⟩ := id C
  obtain ⟨_, u0, u1, u2, fu0, fu1, fu2⟩ := id U
  obtain ⟨_, _⟩ := id Rw
  have V := Go.Proofs.YtoeifpeiogeenaaGreatDoor.Bx.Tri.new w3 (.int .i64 M) (.int .i64 y) (.int .i64 a) 26
  replace C := C.alloc (.cells #[.int .i64 M, .int .i64 y, .int .i64 a] 26)
  replace T := T.alloc (.cells #[.int .i64 M, .int .i64 y, .int .i64 a] 26)
  replace U := U.alloc (.cells #[.int .i64 M, .int .i64 y, .int .i64 a] 26)
  replace Rw := Rw.alloc (.cells #[.int .i64 M, .int .i64 y, .int .i64 a] 26)
  replace B := balloc B (.cells #[.int .i64 M, .int .i64 y, .int .i64 a] 26)
  clear c0 c1 c2 c3 c4 c5 c6 c7 c8 c9 c10 c11 c12 c13 u0 u1 u2 fu0 fu1 fu2
  obtain ⟨_, c0, c1, c2, c3, c4, c5, c6, c7, c8, c9, c10, c11, c12, c13⟩ := id C
  obtain ⟨_, u0, u1, u2, fu0, fu1, fu2⟩ := id U
  obtain ⟨_, _⟩ := id Rw
  obtain ⟨_, v0, v1, v2, fv0, fv1, fv2⟩ := id V
  have X := Go.Proofs.YtoeifpeiogeenaaGreatDoor.Bx.Tri.new (w3.alloc (.cells #[.int .i64 M, .int .i64 y, .int .i64 a] 26)) (.int .i64 M) (.int .i64 y) (.int .i64 b) 26
  rw [World.size_alloc] at X
  replace C := C.alloc (.cells #[.int .i64 M, .int .i64 y, .int .i64 b] 26)
  replace T := T.alloc (.cells #[.int .i64 M, .int .i64 y, .int .i64 b] 26)
  replace U := U.alloc (.cells #[.int .i64 M, .int .i64 y, .int .i64 b] 26)
  replace Rw := Rw.alloc (.cells #[.int .i64 M, .int .i64 y, .int .i64 b] 26)
  replace V := V.alloc (.cells #[.int .i64 M, .int .i64 y, .int .i64 b] 26)
  replace B := balloc B (.cells #[.int .i64 M, .int .i64 y, .int .i64 b] 26)
  clear c0 c1 c2 c3 c4 c5 c6 c7 c8 c9 c10 c11 c12 c13 u0 u1 u2 fu0 fu1 fu2 v0 v1 v2 fv0 fv1 fv2
  obtain ⟨_, c0, c1, c2, c3, c4, c5, c6, c7, c8, c9, c10, c11, c12, c13⟩ := id C
  obtain ⟨_, u0, u1, u2, fu0, fu1, fu2⟩ := id U
  obtain ⟨_, _⟩ := id Rw
  obtain ⟨_, v0, v1, v2, fv0, fv1, fv2⟩ := id V
  obtain ⟨_, x0, x1, x2, fx0, fx1, fx2⟩ := id X
  clear cw cd
  go_upto_region 7 with fail
  generalize hWK : (w3.alloc (.cells #[.int .i64 M, .int .i64 y, .int .i64 a] 26)).alloc (.cells #[.int .i64 M, .int .i64 y, .int .i64 b] 26) = WK at *
  obtain ⟨KB, hKB⟩ : ∃ KB, w3.heap.size = KB := ⟨_, rfl⟩
  rw [hKB] at V X ⊢
  clear hWK hKB u0 u1 u2 fu0 fu1 fu2 v0 v1 v2 fv0 fv1 fv2 x0 x1 x2 fx0 fx1 fx2
  clear c0 c1 c2 c3 c4 c5 c6 c7 c8 c9 c10 c11 c12 c13 
  obtain ⟨_, v0, v1, v2, fv0, fv1, fv2⟩ := id V
  obtain ⟨_, x0, x1, x2, fx0, fx1, fx2⟩ := id X
  have B0 := B.size
  go_wp2
  clear v0 v1 v2 fv0 fv1 fv2 x0 x1 x2 fx0 fx1 fx2
  go_loopw [14, 15] (fun Z Y wr => ∃ j : Nat, j ≤ n ∧ Y = .int .i64 (a + (j : Int)) ∧ One3 26 WK wr Z (pre j)) (fun _ Y _ => (b + 1 - intOf Y).toNat)
  case atStart => exact ⟨0, by omega, by simp, by rw [H0.out]; exact One3.start _ (Below.refl _ _)⟩
  case round =>
    obtain ⟨j, jn, rfl, Z⟩ := hrel
    have B2 := Z.below
    have C2 := C.kept B2
    have T2 := T.kept B2
    have U2 := U.kept B2
    have X2 := X.kept B2
    have pj := HL.out j jn
    obtain ⟨_, x0, x1, x2, fx0, fx1, fx2⟩ := id X2
    have hnn := hn2.out
    by_cases hlt : j < n
    · obtain ⟨lj, e1, ll, OO⟩ := HQ.out j hlt
      have HE := Lib.hid e1
      have kk : a + (j : Int) ≤ b := by omega
      clear e1 hnn
      obtain ⟨_, u0, u1, u2, fu0, fu1, fu2⟩ := id U2
      obtain ⟨_, c0, c1, c2, c3, c4, c5, c6, c7, c8, c9, c10, c11, c12, c13⟩ := id C2
      rcases OO with ⟨le, cj⟩ | cj
      · go_wp2_with fail
        refine (cj _ T2).mono ?_
        rintro e w9 ⟨rfl, hb⟩
        have Z9 := Z.kept hb
        have hR : Go.Proofs.YtoeifpeiogeenaaGreatDoor.Rk.Holds w9 3 (.slice none 0 0) 0 [] := ⟨none, 0, rfl, rfl, fun x hx => by simp at hx, .inl ⟨rfl, rfl⟩⟩
        have hle := Lib.hid le
        clear hb u0 u1 u2 fu0 fu1 fu2 c0 c1 c2 c3 c4 c5 c6 c7 c8 c9 c10 c11 c12 c13 x0 x1 x2 fx0 fx1 fx2 C2 T2 U2 X2 Z B2 le
        go_wp2_with (first
          | (at_builtin; refine wpList_put_behind (by go_simp) (.tmp 94) (.tmp 95) 28 rfl WK.heap.size 26 i0 (.agg #[.int .i64 0, .int .i64 0, .int .i64 0]) 3 24 underU hi hz0 hz1 hz2 rfl (by decide) _ (pre j).length (ucells (pre j)) rfl Z9.a _ 0 [] rfl hR (by unfold maxLen; omega) (by omega) Z9.below.size ?m1))
        case m1 =>
          intro v3 wz hown3 hg3
          have X4 := put3 Z9 (k := []) (by simpa [ucells] using hown3) hg3
          go_wp2
          go_roundw
          case rel => exact ⟨j + 1, by omega, by go_num, by rw [HE.out, hle.out]; exact X4⟩
          case measure => simp [intOf]; omega
      · go_wp2_with fail
        refine (cj _ T2).mono ?_
        rintro e w9 ⟨gj, cj', rfl, Rj, hgj, hb, hcj⟩
        have Z9 := Z.kept hb
        have hR : Go.Proofs.YtoeifpeiogeenaaGreatDoor.Rk.Holds w9 3 (.slice (some ⟨gj, 0, none⟩) lj.length cj') lj.length (ucells lj) := holds_urow Rj
        clear hb u0 u1 u2 fu0 fu1 fu2 c0 c1 c2 c3 c4 c5 c6 c7 c8 c9 c10 c11 c12 c13 x0 x1 x2 fx0 fx1 fx2 C2 T2 U2 X2 Z B2 hgj hcj cj Rj
        go_wp2_with (first
          | (at_builtin; refine wpList_put_behind (by go_simp) (.tmp 94) (.tmp 95) 28 rfl WK.heap.size 26 i0 (.agg #[.int .i64 0, .int .i64 0, .int .i64 0]) 3 24 underU hi hz0 hz1 hz2 rfl (by decide) _ (pre j).length (ucells (pre j)) rfl Z9.a _ lj.length (ucells lj) rfl hR (by unfold maxLen; omega) (by omega) Z9.below.size ?m1))
        case m1 =>
          intro v3 wz hown3 hg3
          have X4 := put3 Z9 (k := lj) hown3 hg3
          go_wp2
          go_roundw
          case rel => exact ⟨j + 1, by omega, by go_num, by rw [HE.out]; exact X4⟩
          case measure => simp [intOf]; omega
    · obtain rfl : j = n := by omega
      have kk : ¬ a + (j : Int) ≤ b := by omega
      have kk2 : decide (a + (j : Int) ≤ b) = false := decide_eq_false kk
      rw [HN.out] at Z
      have hN := HNN.out
      obtain ⟨g2, cap2, rfl, hg2, _⟩ := Z.a.form (by omega)
      have Q := Z.out rfl (by omega)
      have RR := Rw.kept B2
      rw [hN]
      have cs := same_units g g2 N cap cap2 l wr (by omega) hN RR Q.1
      clear C2 T2 U2 X2 Z HQ hN hnn Q RR
      go_wp2_with fail
      refine cs.mono ?_
      rintro e w9 ⟨rfl, hb⟩
      go_wp2
      go_ret
      exact ⟨by simp, bthen (bthen B B2) hb⟩

set_option maxRecDepth 100000 in
theorem parts_ok2 (c : CalZ) (L y i k M a b : Int) (l : List U3) (pre : Nat → List U3) (n : Nat) (w : World) (tb : FTab w) (wk : (Lit.int .i64 k).wf = true) (hm : c.nm.size ≤ maxLen) (dl : decide ((100 : Int) < (c.nm.size : Int)) = false) (o1 : (c.k == 6) = true) (o2 : (M == 5) = false) (R : TwA c L y i k l 0) (D : DownA c L y i M M y a b 0) (l0 : 1 ≤ l.length) (l1 : l.length ≤ 60)
    (hn : (n : Int) = b - a + 1) (a1 : 1 ≤ a) (n1 : 1 ≤ n) (b60 : b ≤ 60) (p0 : pre 0 = []) (pn : pre n = l) (HP : ∀ j : Nat, j < n → ∃ lj ej, TwA c M y (a + j) k lj ej ∧ (ej = 0 ∨ (ej = 12 ∧ lj = [])) ∧ pre (j + 1) = pre j ++ lj) (pl : ∀ j, j ≤ n → (pre j).length ≤ 60) :
    Calls Tryz.prog 7 #[.agg #[.string c.nm, .int .i64 c.k, .int .i64 c.d, .int .i64 c.m, .int .i64 c.s, .int .i64 c.sh, .int .i64 c.p0, .int .i64 c.p1, .int .i64 c.p2, .int .i64 c.cy, .int .i64 c.ex, .int .i64 c.fi, .int .i64 c.la, .int .i64 c.po], .agg #[.int .i64 L, .int .i64 y, .int .i64 i], .int .i64 k, .int .i64 M] w fun e w' => e = .returned (.bool true) ∧ Below w.heap.size w w' := by
  obtain ⟨i0, hi, hz0, hz1, hz2⟩ := info_parts infoU
  have T := tb
  have C := CalIn.new w c 24
  have B := balloc (Below.refl _ w) (.cells #[.string c.nm, .int .i64 c.k, .int .i64 c.d, .int .i64 c.m, .int .i64 c.s, .int .i64 c.sh, .int .i64 c.p0, .int .i64 c.p1, .int .i64 c.p2, .int .i64 c.cy, .int .i64 c.ex, .int .i64 c.fi, .int .i64 c.la, .int .i64 c.po] 24)
  replace T := T.alloc (.cells #[.string c.nm, .int .i64 c.k, .int .i64 c.d, .int .i64 c.m, .int .i64 c.s, .int .i64 c.sh, .int .i64 c.p0, .int .i64 c.p1, .int .i64 c.p2, .int .i64 c.cy, .int .i64 c.ex, .int .i64 c.fi, .int .i64 c.la, .int .i64 c.po] 24)
  have U := Go.Proofs.YtoeifpeiogeenaaGreatDoor.Bx.Tri.new (w.alloc (.cells #[.string c.nm, .int .i64 c.k, .int .i64 c.d, .int .i64 c.m, .int .i64 c.s, .int .i64 c.sh, .int .i64 c.p0, .int .i64 c.p1, .int .i64 c.p2, .int .i64 c.cy, .int .i64 c.ex, .int .i64 c.fi, .int .i64 c.la, .int .i64 c.po] 24)) (.int .i64 L) (.int .i64 y) (.int .i64 i) 26
  rw [World.size_alloc] at U
  replace C := C.alloc (.cells #[.int .i64 L, .int .i64 y, .int .i64 i] 26)
  replace B := balloc B (.cells #[.int .i64 L, .int .i64 y, .int .i64 i] 26)
  replace T := T.alloc (.cells #[.int .i64 L, .int .i64 y, .int .i64 i] 26)
  have cw := fun w T => Weeks_ok c L y i k l w R hm T
  have cd := fun w T => Down_any c L y i M M y a b 0 w D hm T
  have HQ : Hid (∀ j : Nat, j < n → ∃ lj : List U3, pre (j + 1) = pre j ++ lj ∧ lj.length ≤ 60 ∧ ((lj = [] ∧ ∀ w, FTab w → Calls Tryz.prog 16 #[.agg #[.string c.nm, .int .i64 c.k, .int .i64 c.d, .int .i64 c.m, .int .i64 c.s, .int .i64 c.sh, .int .i64 c.p0, .int .i64 c.p1, .int .i64 c.p2, .int .i64 c.cy, .int .i64 c.ex, .int .i64 c.fi, .int .i64 c.la, .int .i64 c.po], .agg #[.int .i64 M, .int .i64 y, .int .i64 (a + (j : Int))], .int .i64 k] w fun e w' => e = .returned (.tuple #[.slice none 0 0, .int .i64 12]) ∧ Below w.heap.size w w') ∨
      ∀ w, FTab w → Calls Tryz.prog 16 #[.agg #[.string c.nm, .int .i64 c.k, .int .i64 c.d, .int .i64 c.m, .int .i64 c.s, .int .i64 c.sh, .int .i64 c.p0, .int .i64 c.p1, .int .i64 c.p2, .int .i64 c.cy, .int .i64 c.ex, .int .i64 c.fi, .int .i64 c.la, .int .i64 c.po], .agg #[.int .i64 M, .int .i64 y, .int .i64 (a + (j : Int))], .int .i64 k] w (UnitsTo w lj))) := Lib.hid (fun j hj => by
    obtain ⟨lj, ej, R2, h1, h2⟩ := HP j hj
    have := pl (j + 1) (by omega)
    rw [h2, List.length_append] at this
    refine ⟨lj, h2, by omega, ?_⟩
    rcases h1 with rfl | ⟨rfl, h3⟩
    · exact .inr (fun w T => Weeks_ok c M y (a + j) k lj w R2 hm T)
    · exact .inl ⟨h3, fun w T => Weeks_er c M y (a + j) k 12 lj w R2 (by decide) wk hm T⟩)
  have HL := Lib.hid pl
  have H0 := Lib.hid p0
  have HN := Lib.hid pn
  have hn2 := Lib.hid hn
  obtain ⟨N, hN⟩ : ∃ N, l.length = N := ⟨_, rfl⟩
  have HNN := Lib.hid hN
  have qb : 1 ≤ b := by omega
  have qa : a ≤ 60 := by omega
  have qn : (n : Int) ≤ 60 := by omega
  clear R D HP pl p0 pn hn
  rw [hN] at l0 l1
  go_enter Tryz.func7, Tryz.ntmps7
  go_upto_region 1 with fail
  generalize (w.alloc (.cells #[.string c.nm, .int .i64 c.k, .int .i64 c.d, .int .i64 c.m, .int .i64 c.s, .int .i64 c.sh, .int .i64 c.p0, .int .i64 c.p1, .int .i64 c.p2, .int .i64 c.cy, .int .i64 c.ex, .int .i64 c.fi, .int .i64 c.la, .int .i64 c.po] 24)).alloc (.cells #[.int .i64 L, .int .i64 y, .int .i64 i] 26) = W0 at *
  obtain ⟨_, c0, c1, c2, c3, c4, c5, c6, c7, c8, c9, c10, c11, c12, c13⟩ := id C
  obtain ⟨_, u0, u1, u2, fu0, fu1, fu2⟩ := id U
  go_wp2_with fail
  refine (blive_ok _ T).mono ?_
  rintro e w1 ⟨rfl, hb⟩
  replace C := C.kept hb
  replace B := bthen B hb
  replace T := T.kept hb
  replace U := U.kept hb
  clear hb c0 c1 c2 c3 c4 c5 c6 c7 c8 c9 c10 c11 c12 c13 u0 u1 u2 fu0 fu1 fu2
  obtain ⟨_, c0, c1, c2, c3, c4, c5, c6, c7, c8, c9, c10, c11, c12, c13⟩ := id C
  obtain ⟨_, u0, u1, u2, fu0, fu1, fu2⟩ := id U
  go_wp2_with fail
  refine (cw _ T).mono ?_
  rintro e w2 ⟨g, cap, rfl, Rw, hg, hb, hcap⟩
  replace C := C.kept hb
  replace B := bthen B hb
  replace T := T.kept hb
  replace U := U.kept hb
  clear hb c0 c1 c2 c3 c4 c5 c6 c7 c8 c9 c10 c11 c12 c13 u0 u1 u2 fu0 fu1 fu2
  obtain ⟨_, c0, c1, c2, c3, c4, c5, c6, c7, c8, c9, c10, c11, c12, c13⟩ := id C
  obtain ⟨_, u0, u1, u2, fu0, fu1, fu2⟩ := id U
  rw [hN]
  clear hg hcap hN
  obtain ⟨_, _⟩ := id Rw
  go_wp2_with fail
  refine (cd _ T).mono ?_
  rintro e w3 ⟨rfl, hb⟩
  replace C := C.kept hb
  replace B := bthen B hb
  replace T := T.kept hb
  replace U := U.kept hb
  replace Rw := Rw.kept hb
  clear hb c0 c1 c2 c3 c4 c5 c6 c7 c8 c9 c10 c11 c12 c13 u0 u1 u2 fu0 fu1 fu2
  obtain ⟨_, c0, c1, c2, c3, c4, c5, c6, c7, c8, c9, c10, c11, c12, c13⟩ := id C
  obtain ⟨_, u0, u1, u2, fu0, fu1, fu2⟩ := id U
  obtain ⟨_, _⟩ := id Rw
  have V := Go.Proofs.YtoeifpeiogeenaaGreatDoor.Bx.Tri.new w3 (.int .i64 M) (.int .i64 y) (.int .i64 a) 26
  replace C := C.alloc (.cells #[.int .i64 M, .int .i64 y, .int .i64 a] 26)
  replace T := T.alloc (.cells #[.int .i64 M, .int .i64 y, .int .i64 a] 26)
  replace U := U.alloc (.cells #[.int .i64 M, .int .i64 y, .int .i64 a] 26)
  replace Rw := Rw.alloc (.cells #[.int .i64 M, .int .i64 y, .int .i64 a] 26)
  replace B := balloc B (.cells #[.int .i64 M, .int .i64 y, .int .i64 a] 26)
  clear c0 c1 c2 c3 c4 c5 c6 c7 c8 c9 c10 c11 c12 c13 u0 u1 u2 fu0 fu1 fu2
  obtain ⟨_, c0, c1, c2, c3, c4, c5, c6, c7, c8, c9, c10, c11, c12, c13⟩ := id C
  obtain ⟨_, u0, u1, u2, fu0, fu1, fu2⟩ := id U
  obtain ⟨_, _⟩ := id Rw
  obtain ⟨_, v0, v1, v2, fv0, fv1, fv2⟩ := id V
  have X := Go.Proofs.YtoeifpeiogeenaaGreatDoor.Bx.Tri.new (w3.alloc (.cells #[.int .i64 M, .int .i64 y, .int .i64 a] 26)) (.int .i64 M) (.int .i64 y) (.int .i64 b) 26
  rw [World.size_alloc] at X
  replace C := C.alloc (.cells #[.int .i64 M, .int .i64 y, .int .i64 b] 26)
  replace T := T.alloc (.cells #[.int .i64 M, .int .i64 y, .int .i64 b] 26)
  replace U := U.alloc (.cells #[.int .i64 M, .int .i64 y, .int .i64 b] 26)
  replace Rw := Rw.alloc (.cells #[.int .i64 M, .int .i64 y, .int .i64 b] 26)
  replace V := V.alloc (.cells #[.int .i64 M, .int .i64 y, .int .i64 b] 26)
  replace B := balloc B (.cells #[.int .i64 M, .int .i64 y, .int .i64 b] 26)
  clear c0 c1 c2 c3 c4 c5 c6 c7 c8 c9 c10 c11 c12 c13 u0 u1 u2 fu0 fu1 fu2 v0 v1 v2 fv0 fv1 fv2
  obtain ⟨_, c0, c1, c2, c3, c4, c5, c6, c7, c8, c9, c10, c11, c12, c13⟩ := id C
  obtain ⟨_, u0, u1, u2, fu0, fu1, fu2⟩ := id U
  obtain ⟨_, _⟩ := id Rw
  obtain ⟨_, v0, v1, v2, fv0, fv1, fv2⟩ := id V
  obtain ⟨_, x0, x1, x2, fx0, fx1, fx2⟩ := id X
  clear cw cd
  go_upto_region 7 with fail
  generalize hWK : (w3.alloc (.cells #[.int .i64 M, .int .i64 y, .int .i64 a] 26)).alloc (.cells #[.int .i64 M, .int .i64 y, .int .i64 b] 26) = WK at *
  obtain ⟨KB, hKB⟩ : ∃ KB, w3.heap.size = KB := ⟨_, rfl⟩
  rw [hKB] at V X ⊢
  clear hWK hKB u0 u1 u2 fu0 fu1 fu2 v0 v1 v2 fv0 fv1 fv2 x0 x1 x2 fx0 fx1 fx2
  clear c0 c1 c2 c3 c4 c5 c6 c7 c8 c9 c10 c11 c12 c13 
  obtain ⟨_, v0, v1, v2, fv0, fv1, fv2⟩ := id V
  obtain ⟨_, x0, x1, x2, fx0, fx1, fx2⟩ := id X
  have B0 := B.size
  go_wp2
  clear v0 v1 v2 fv0 fv1 fv2 x0 x1 x2 fx0 fx1 fx2
  go_loopw [14, 15] (fun Z Y wr => ∃ j : Nat, j ≤ n ∧ Y = .int .i64 (a + (j : Int)) ∧ One3 26 WK wr Z (pre j)) (fun _ Y _ => (b + 1 - intOf Y).toNat)
  case atStart => exact ⟨0, by omega, by simp, by rw [H0.out]; exact One3.start _ (Below.refl _ _)⟩
  case round =>
    obtain ⟨j, jn, rfl, Z⟩ := hrel
    have B2 := Z.below
    have C2 := C.kept B2
    have T2 := T.kept B2
    have U2 := U.kept B2
    have X2 := X.kept B2
    have pj := HL.out j jn
    obtain ⟨_, x0, x1, x2, fx0, fx1, fx2⟩ := id X2
    have hnn := hn2.out
    by_cases hlt : j < n
    · obtain ⟨lj, e1, ll, OO⟩ := HQ.out j hlt
      have HE := Lib.hid e1
      have kk : a + (j : Int) ≤ b := by omega
      clear e1 hnn
      obtain ⟨_, u0, u1, u2, fu0, fu1, fu2⟩ := id U2
      obtain ⟨_, c0, c1, c2, c3, c4, c5, c6, c7, c8, c9, c10, c11, c12, c13⟩ := id C2
      rcases OO with ⟨le, cj⟩ | cj
      · go_wp2_with fail
        refine (cj _ T2).mono ?_
        rintro e w9 ⟨rfl, hb⟩
        have Z9 := Z.kept hb
        have hR : Go.Proofs.YtoeifpeiogeenaaGreatDoor.Rk.Holds w9 3 (.slice none 0 0) 0 [] := ⟨none, 0, rfl, rfl, fun x hx => by simp at hx, .inl ⟨rfl, rfl⟩⟩
        have hle := Lib.hid le
        clear hb u0 u1 u2 fu0 fu1 fu2 c0 c1 c2 c3 c4 c5 c6 c7 c8 c9 c10 c11 c12 c13 x0 x1 x2 fx0 fx1 fx2 C2 T2 U2 X2 Z B2 le
        go_wp2_with (first
          | (at_builtin; refine wpList_put_behind (by go_simp) (.tmp 94) (.tmp 95) 28 rfl WK.heap.size 26 i0 (.agg #[.int .i64 0, .int .i64 0, .int .i64 0]) 3 24 underU hi hz0 hz1 hz2 rfl (by decide) _ (pre j).length (ucells (pre j)) rfl Z9.a _ 0 [] rfl hR (by unfold maxLen; omega) (by omega) Z9.below.size ?m1))
        case m1 =>
          intro v3 wz hown3 hg3
          have X4 := put3 Z9 (k := []) (by simpa [ucells] using hown3) hg3
          go_wp2
          go_roundw
          case rel => exact ⟨j + 1, by omega, by go_num, by rw [HE.out, hle.out]; exact X4⟩
          case measure => simp [intOf]; omega
      · go_wp2_with fail
        refine (cj _ T2).mono ?_
        rintro e w9 ⟨gj, cj', rfl, Rj, hgj, hb, hcj⟩
        have Z9 := Z.kept hb
        have hR : Go.Proofs.YtoeifpeiogeenaaGreatDoor.Rk.Holds w9 3 (.slice (some ⟨gj, 0, none⟩) lj.length cj') lj.length (ucells lj) := holds_urow Rj
        clear hb u0 u1 u2 fu0 fu1 fu2 c0 c1 c2 c3 c4 c5 c6 c7 c8 c9 c10 c11 c12 c13 x0 x1 x2 fx0 fx1 fx2 C2 T2 U2 X2 Z B2 hgj hcj cj Rj
        go_wp2_with (first
          | (at_builtin; refine wpList_put_behind (by go_simp) (.tmp 94) (.tmp 95) 28 rfl WK.heap.size 26 i0 (.agg #[.int .i64 0, .int .i64 0, .int .i64 0]) 3 24 underU hi hz0 hz1 hz2 rfl (by decide) _ (pre j).length (ucells (pre j)) rfl Z9.a _ lj.length (ucells lj) rfl hR (by unfold maxLen; omega) (by omega) Z9.below.size ?m1))
        case m1 =>
          intro v3 wz hown3 hg3
          have X4 := put3 Z9 (k := lj) hown3 hg3
          go_wp2
          go_roundw
          case rel => exact ⟨j + 1, by omega, by go_num, by rw [HE.out]; exact X4⟩
          case measure => simp [intOf]; omega
    · obtain rfl : j = n := by omega
      have kk : ¬ a + (j : Int) ≤ b := by omega
      have kk2 : decide (a + (j : Int) ≤ b) = false := decide_eq_false kk
      rw [HN.out] at Z
      have hN := HNN.out
      obtain ⟨g2, cap2, rfl, hg2, _⟩ := Z.a.form (by omega)
      have Q := Z.out rfl (by omega)
      have RR := Rw.kept B2
      rw [hN]
      have cs := same_units g g2 N cap cap2 l wr (by omega) hN RR Q.1
      clear C2 T2 U2 X2 Z HQ hN hnn Q RR
      go_wp2_with fail
      refine cs.mono ?_
      rintro e w9 ⟨rfl, hb⟩
      go_wp2
      go_ret
      exact ⟨by simp, bthen (bthen B B2) hb⟩

theorem parts_walk (c : CalZ) (L y i k M : Int) (w : World) (wf : CalWf c) (wL : (Lit.int .i64 L).wf = true) (wy : (Lit.int .i64 y).wf = true) (wi : (Lit.int .i64 i).wf = true) (wk : (Lit.int .i64 k).wf = true) (wM : (Lit.int .i64 M).wf = true) (tb : FTab w) :
    Calls Tryz.prog 7 #[.agg #[.string c.nm, .int .i64 c.k, .int .i64 c.d, .int .i64 c.m, .int .i64 c.s, .int .i64 c.sh, .int .i64 c.p0, .int .i64 c.p1, .int .i64 c.p2, .int .i64 c.cy, .int .i64 c.ex, .int .i64 c.fi, .int .i64 c.la, .int .i64 c.po], .agg #[.int .i64 L, .int .i64 y, .int .i64 i], .int .i64 k, .int .i64 M] w fun e w' => e = .returned (.bool true) ∧ Below w.heap.size w w' := by
  by_cases h : 100 < c.nm.size ∨ (c.k = 6 ∧ M = 5)
  · exact parts_out c L y i k M w tb h
  have dl : decide ((100 : Int) < (c.nm.size : Int)) = false := decide_eq_false (by omega)
  have O : ((c.k == 6) = false ∨ ((c.k == 6) = true ∧ (M == 5) = false)) := by
    by_cases e : c.k = 6
    · exact .inr ⟨beq_iff_eq.2 e, beq_eq_false_iff_ne.2 (fun x => h (.inr ⟨e, x⟩))⟩
    · exact .inl (beq_eq_false_iff_ne.2 e)
  obtain ⟨l, er, R⟩ := twa_ex c L y i k
  obtain ⟨p, q, a, b, er2, D⟩ := downa_ex c L y i M
  by_cases e : er = 0
  case neg => exact parts_er c L y i k M er p q a b er2 l w tb wk wf.1 dl O R e D
  subst e
  by_cases e2 : er2 = 0
  case neg => exact parts_ef c L y i k M p q a b er2 l w tb wk wf.1 dl O R D e2
  subst e2
  have D0 := D
  rcases D with ⟨u, lm, m5, Ia, Ib, rfl, rfl, _⟩ | ⟨_, _, _, _, _, _, h⟩ | ⟨nu, ck, _⟩
  · obtain ⟨pre, n, hn, a1, n1, b60, p0, pn, HP⟩ := parts_ex R u lm m5 Ia Ib (fun x => h (.inr x))
    have X := twa_list R
    have mono : ∀ j, j ≤ n → ∃ r, pre n = pre j ++ r := by
      have q : ∀ d j, j + d = n → ∃ r, pre n = pre j ++ r := by
        intro d
        induction d with
        | zero => intro j hj; obtain rfl : j = n := by omega
                  exact ⟨[], by simp⟩
        | succ d ih =>
          intro j hj
          obtain ⟨r, hr⟩ := ih (j + 1) (by omega)
          obtain ⟨lj, _, _, _, h2⟩ := HP j (by omega)
          exact ⟨lj ++ r, by rw [hr, h2, List.append_assoc]⟩
      exact fun j hj => q (n - j) j (by omega)
    have pl : ∀ j, j ≤ n → (pre j).length ≤ 60 := fun j hj => by
      obtain ⟨r, hr⟩ := mono j hj
      have := congrArg List.length hr
      rw [pn, List.length_append] at this
      have := X.l1
      omega
    rcases O with o1 | ⟨o1, o2⟩
    · exact parts_ok1 c L _ i k _ a b l pre n w tb wk wf.1 dl o1 R D0 X.l0 X.l1 hn a1 n1 b60 p0 pn HP pl
    · exact parts_ok2 c L _ i k _ a b l pre n w tb wk wf.1 dl o1 o2 R D0 X.l0 X.l1 hn a1 n1 b60 p0 pn HP pl
  · omega
  · exact absurd ((uchka_ok ck).1 rfl) nu

end Go.Proofs.YtoeifpeiogeenaaGreatDoor.Bl
