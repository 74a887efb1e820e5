/- What Up and Down of package unit come to. -/
import Derived.Test.YtjiifmdjhdhabaaGreatDoorJI
import Derived.Test.YtjiifmdjhdhabaaGreatDoorIcode7
namespace Go.Proofs.YtjiifmdjhdhabaaGreatDoor.Ip
set_option linter.unusedSimpArgs false
set_option linter.unusedVariables false
open Go.RowKit Go.Proofs.YtjiifmdjhdhabaaGreatDoor.Bn Go.Proofs.YtjiifmdjhdhabaaGreatDoor.Bx Go.Proofs.YtjiifmdjhdhabaaGreatDoor.Cp Go.Proofs.YtjiifmdjhdhabaaGreatDoor.Am Go.Proofs.YtjiifmdjhdhabaaGreatDoor.Fp Go.Proofs.YtjiifmdjhdhabaaGreatDoor.Ap Go.Proofs.YtjiifmdjhdhabaaGreatDoor.Cm Go.Proofs.YtjiifmdjhdhabaaGreatDoor.Em Go.Proofs.YtjiifmdjhdhabaaGreatDoor.Ep Go.Proofs.YtjiifmdjhdhabaaGreatDoor.Rk Go.Proofs.YtjiifmdjhdhabaaGreatDoor.Hp

set_option maxHeartbeats 4000000

/-- the unit of level M in which a unit lies -/
def UpA (c : CalZ) (L y i M p q r er : Int) : Prop :=
  (UnitOk c L y i ∧ 1 ≤ M ∧ M ≤ L ∧ InU c y M (uend c y L (i - 1) + 1) r ∧ p = M ∧ q = y ∧ er = 0) ∨ (UnitOk c L y i ∧ ¬ (1 ≤ M ∧ M ≤ L) ∧ p = 0 ∧ q = 0 ∧ r = 0 ∧ er = 1) ∨ (¬ UnitOk c L y i ∧ UChkA c L y i er ∧ p = 0 ∧ q = 0 ∧ r = 0)
/-- the first unit of level M that lies in a unit, and the last one -/
def DownA (c : CalZ) (L y i M p q r s er : Int) : Prop :=
  (UnitOk c L y i ∧ L ≤ M ∧ M ≤ 5 ∧ InU c y M (uend c y L (i - 1) + 1) r ∧ InU c y M (uend c y L i) s ∧ p = M ∧ q = y ∧ er = 0) ∨ (UnitOk c L y i ∧ ¬ (L ≤ M ∧ M ≤ 5) ∧ p = 0 ∧ q = 0 ∧ r = 0 ∧ s = 0 ∧ er = 1) ∨ (¬ UnitOk c L y i ∧ UChkA c L y i er ∧ p = 0 ∧ q = 0 ∧ r = 0 ∧ s = 0)
theorem unit_days {c : CalZ} {L y i : Int} (h : UnitOk c L y i) : pend c y 0 < uend c y L (i - 1) + 1 ∧ uend c y L (i - 1) + 1 ≤ uend c y L i ∧ uend c y L i ≤ pend c y (per c) ∧ 1601 ≤ y ∧ y ≤ 9997 ∧ 1 ≤ L ∧ L ≤ 5 := by
  obtain ⟨ok, l, s, i0, i1⟩ := h
  have st := served_told ok s
  have a := uend_bd (y := y) (i := i - 1) ok.1 (by omega) (by omega) l (by omega) (by omega)
  have b := uend_bd (y := y) (i := i) ok.1 (by omega) (by omega) l (by omega) i1
  have d := uend_step (y := y) (i := i - 1) ok.1 (by omega) (by omega) l (by omega) (by omega)
  rw [show i - 1 + 1 = i by omega] at d
  unfold LevOk at l
  omega
theorem upa_ex (c : CalZ) (L y i M : Int) : ∃ p q r er, UpA c L y i M p q r er := by
  by_cases h : UnitOk c L y i
  · have d := unit_days h
    by_cases k : 1 ≤ M ∧ M ≤ L
    · obtain ⟨r, hr⟩ := inu_ex (y := y) (L := M) (d := uend c y L (i - 1) + 1) h.1.1 (by omega) (by omega) ⟨k.1, by omega⟩ d.1 (by omega)
      exact ⟨_, _, r, 0, .inl ⟨h, k.1, k.2, hr, rfl, rfl, rfl⟩⟩
    · exact ⟨0, 0, 0, 1, .inr (.inl ⟨h, k, rfl, rfl, rfl, rfl⟩)⟩
  · obtain ⟨er, e⟩ := uchka_ex c L y i
    exact ⟨0, 0, 0, er, .inr (.inr ⟨h, e, rfl, rfl, rfl⟩)⟩
theorem downa_ex (c : CalZ) (L y i M : Int) : ∃ p q r s er, DownA c L y i M p q r s er := by
  by_cases h : UnitOk c L y i
  · have d := unit_days h
    by_cases k : L ≤ M ∧ M ≤ 5
    · obtain ⟨r, hr⟩ := inu_ex (y := y) (L := M) (d := uend c y L (i - 1) + 1) h.1.1 (by omega) (by omega) ⟨by omega, k.2⟩ d.1 (by omega)
      obtain ⟨s, hs⟩ := inu_ex (y := y) (L := M) (d := uend c y L i) h.1.1 (by omega) (by omega) ⟨by omega, k.2⟩ (by omega) (by omega)
      exact ⟨_, _, r, s, 0, .inl ⟨h, k.1, k.2, hr, hs, rfl, rfl, rfl⟩⟩
    · exact ⟨0, 0, 0, 0, 1, .inr (.inl ⟨h, k, rfl, rfl, rfl, rfl, rfl⟩)⟩
  · obtain ⟨er, e⟩ := uchka_ex c L y i
    exact ⟨0, 0, 0, 0, er, .inr (.inr ⟨h, e, rfl, rfl, rfl, rfl⟩)⟩

set_option maxRecDepth 100000 in
theorem Up_any (c : CalZ) (L y i M p q r er : Int) (w : World) (R : UpA c L y i M p q r er) (hm : c.nm.size ≤ maxLen) (T : FTab w) :
    Calls Tryz.prog 13 #[.agg #[.string c.nm, .int .i64 c.k, .int .i64 c.d, .int .i64 c.m, .int .i64 c.s, .int .i64 c.sh, .int .i64 c.p0, .int .i64 c.p1, .int .i64 c.p2, .int .i64 c.cy, .int .i64 c.ex, .int .i64 c.fi, .int .i64 c.la, .int .i64 c.po], .agg #[.int .i64 L, .int .i64 y, .int .i64 i], .int .i64 M] w fun e w' => e = .returned (.tuple #[.agg #[.int .i64 p, .int .i64 q, .int .i64 r], .int .i64 er]) ∧ Below w.heap.size w w' := by
  have C := CalIn.new w c 24
  have B := balloc (Below.refl _ w) (.cells #[.string c.nm, .int .i64 c.k, .int .i64 c.d, .int .i64 c.m, .int .i64 c.s, .int .i64 c.sh, .int .i64 c.p0, .int .i64 c.p1, .int .i64 c.p2, .int .i64 c.cy, .int .i64 c.ex, .int .i64 c.fi, .int .i64 c.la, .int .i64 c.po] 24)
  replace T := T.alloc (.cells #[.string c.nm, .int .i64 c.k, .int .i64 c.d, .int .i64 c.m, .int .i64 c.s, .int .i64 c.sh, .int .i64 c.p0, .int .i64 c.p1, .int .i64 c.p2, .int .i64 c.cy, .int .i64 c.ex, .int .i64 c.fi, .int .i64 c.la, .int .i64 c.po] 24)
  have U := Go.Proofs.YtjiifmdjhdhabaaGreatDoor.Bx.Tri.new (w.alloc (.cells #[.string c.nm, .int .i64 c.k, .int .i64 c.d, .int .i64 c.m, .int .i64 c.s, .int .i64 c.sh, .int .i64 c.p0, .int .i64 c.p1, .int .i64 c.p2, .int .i64 c.cy, .int .i64 c.ex, .int .i64 c.fi, .int .i64 c.la, .int .i64 c.po] 24)) (.int .i64 L) (.int .i64 y) (.int .i64 i) 26
  rw [World.size_alloc] at U
  have K := Go.Proofs.YtjiifmdjhdhabaaGreatDoor.Bx.Tri.new ((w.alloc (.cells #[.string c.nm, .int .i64 c.k, .int .i64 c.d, .int .i64 c.m, .int .i64 c.s, .int .i64 c.sh, .int .i64 c.p0, .int .i64 c.p1, .int .i64 c.p2, .int .i64 c.cy, .int .i64 c.ex, .int .i64 c.fi, .int .i64 c.la, .int .i64 c.po] 24)).alloc (.cells #[.int .i64 L, .int .i64 y, .int .i64 i] 26)) (.int .i64 0) (.int .i64 0) (.int .i64 0) 26
  have zz : ((w.alloc (.cells #[.string c.nm, .int .i64 c.k, .int .i64 c.d, .int .i64 c.m, .int .i64 c.s, .int .i64 c.sh, .int .i64 c.p0, .int .i64 c.p1, .int .i64 c.p2, .int .i64 c.cy, .int .i64 c.ex, .int .i64 c.fi, .int .i64 c.la, .int .i64 c.po] 24)).alloc (.cells #[.int .i64 L, .int .i64 y, .int .i64 i] 26)).heap.size = w.heap.size + 2 := by simp
  rw [zz] at K
  replace U := U.alloc (.cells #[.int .i64 0, .int .i64 0, .int .i64 0] 26)
  replace C := (C.alloc (.cells #[.int .i64 L, .int .i64 y, .int .i64 i] 26)).alloc (.cells #[.int .i64 0, .int .i64 0, .int .i64 0] 26)
  replace B := balloc (balloc B (.cells #[.int .i64 L, .int .i64 y, .int .i64 i] 26)) (.cells #[.int .i64 0, .int .i64 0, .int .i64 0] 26)
  replace T := (T.alloc (.cells #[.int .i64 L, .int .i64 y, .int .i64 i] 26)).alloc (.cells #[.int .i64 0, .int .i64 0, .int .i64 0] 26)
  clear zz
  rcases R with ⟨uo, m0, m1, hr, rfl, rfl, rfl⟩ | ⟨uo, mm, rfl, rfl, rfl, rfl⟩ | ⟨no, ck, rfl, rfl, rfl⟩
  · have ud := unit_days uo
    obtain ⟨a, ha⟩ : ∃ a, a = uend c q L (i - 1) + 1 := ⟨_, rfl⟩
    obtain ⟨b, hb'⟩ : ∃ b, b = uend c q L i := ⟨_, rfl⟩
    have cs := fun w T => Span_any c L q i a b 0 w (.inl ⟨uo, ha, hb', rfl⟩) hm T
    have cl := fun w => isLevel_any p true w (decide_eq_true ⟨m0, by omega⟩).symm
    have ca := fun w T => fat_any c q p a r w uo.1 (by omega) (by omega) ⟨m0, by omega⟩ (by rw [ha]; exact hr) hm T
    have dl : decide (L < p) = false := decide_eq_false (by omega)
    clear uo hr ha hb' ud m0 m1
    go_enter Tryz.func13, Tryz.ntmps13
    go_upto_region 1 with fail
    generalize ((w.alloc (.cells #[.string c.nm, .int .i64 c.k, .int .i64 c.d, .int .i64 c.m, .int .i64 c.s, .int .i64 c.sh, .int .i64 c.p0, .int .i64 c.p1, .int .i64 c.p2, .int .i64 c.cy, .int .i64 c.ex, .int .i64 c.fi, .int .i64 c.la, .int .i64 c.po] 24)).alloc (.cells #[.int .i64 L, .int .i64 q, .int .i64 i] 26)).alloc (.cells #[.int .i64 0, .int .i64 0, .int .i64 0] 26) = W0 at *
    obtain ⟨_, c0, c1, c2, c3, c4, c5, c6, c7, c8, c9, c10, c11, c12, c13⟩ := id C
    obtain ⟨_, u0, u1, u2, fu0, fu1, fu2⟩ := id U
    obtain ⟨_, r0, r1, r2, g0, g1, g2⟩ := id K
    go_wp2_with fail
    refine (cs _ T).mono ?_
    rintro e w1 ⟨rfl, hb⟩
    replace C := C.kept hb
    replace B := bthen B hb
    replace T := T.kept hb
    replace U := U.kept hb
    replace K := K.kept hb
    clear hb c0 c1 c2 c3 c4 c5 c6 c7 c8 c9 c10 c11 c12 c13 u0 u1 u2 fu0 fu1 fu2 r0 r1 r2 g0 g1 g2
    obtain ⟨_, c0, c1, c2, c3, c4, c5, c6, c7, c8, c9, c10, c11, c12, c13⟩ := id C
    obtain ⟨_, u0, u1, u2, fu0, fu1, fu2⟩ := id U
    obtain ⟨_, r0, r1, r2, g0, g1, g2⟩ := id K
    have S := Go.Proofs.YtjiifmdjhdhabaaGreatDoor.Pr.Two.new w1 (.int .i64 a) (.int .i64 b) 32
    replace C := C.alloc (.cells #[.int .i64 a, .int .i64 b] 32)
    replace T := T.alloc (.cells #[.int .i64 a, .int .i64 b] 32)
    replace U := U.alloc (.cells #[.int .i64 a, .int .i64 b] 32)
    replace K := K.alloc (.cells #[.int .i64 a, .int .i64 b] 32)
    replace B := balloc B (.cells #[.int .i64 a, .int .i64 b] 32)
    clear c0 c1 c2 c3 c4 c5 c6 c7 c8 c9 c10 c11 c12 c13 u0 u1 u2 fu0 fu1 fu2 r0 r1 r2 g0 g1 g2
    obtain ⟨_, c0, c1, c2, c3, c4, c5, c6, c7, c8, c9, c10, c11, c12, c13⟩ := id C
    obtain ⟨_, u0, u1, u2, fu0, fu1, fu2⟩ := id U
    obtain ⟨_, r0, r1, r2, g0, g1, g2⟩ := id K
    obtain ⟨_, s0, s1, q0, q1⟩ := id S
    go_wp2_with fail
    refine (cl _).mono ?_
    rintro e w2 ⟨rfl, hb⟩
    replace C := C.kept hb
    replace B := bthen B hb
    replace T := T.kept hb
    replace U := U.kept hb
    replace K := K.kept hb
    replace S := S.kept hb
    clear hb c0 c1 c2 c3 c4 c5 c6 c7 c8 c9 c10 c11 c12 c13 u0 u1 u2 fu0 fu1 fu2 r0 r1 r2 g0 g1 g2 s0 s1 q0 q1
    obtain ⟨_, c0, c1, c2, c3, c4, c5, c6, c7, c8, c9, c10, c11, c12, c13⟩ := id C
    obtain ⟨_, u0, u1, u2, fu0, fu1, fu2⟩ := id U
    obtain ⟨_, r0, r1, r2, g0, g1, g2⟩ := id K
    obtain ⟨_, s0, s1, q0, q1⟩ := id S
    go_wp2_with fail
    refine (ca _ T).mono ?_
    rintro e w3 ⟨rfl, hb⟩
    replace C := C.kept hb
    replace B := bthen B hb
    replace T := T.kept hb
    replace U := U.kept hb
    replace K := K.kept hb
    replace S := S.kept hb
    clear hb c0 c1 c2 c3 c4 c5 c6 c7 c8 c9 c10 c11 c12 c13 u0 u1 u2 fu0 fu1 fu2 r0 r1 r2 g0 g1 g2 s0 s1 q0 q1
    obtain ⟨_, c0, c1, c2, c3, c4, c5, c6, c7, c8, c9, c10, c11, c12, c13⟩ := id C
    obtain ⟨_, u0, u1, u2, fu0, fu1, fu2⟩ := id U
    obtain ⟨_, r0, r1, r2, g0, g1, g2⟩ := id K
    obtain ⟨_, s0, s1, q0, q1⟩ := id S
    go_wp2
    refine bodyPost_ret (v := .tuple #[.agg #[.int .i64 p, .int .i64 q, .int .i64 r], .int .i64 0]) (by simp [results, Tryz.results13, go_sem, *]) rfl ⟨rfl, ?_⟩
    exact bset (bset (bset B (by omega) _ _) (by omega) _ _) (by omega) _ _
  · obtain ⟨a, ha⟩ : ∃ a, a = uend c y L (i - 1) + 1 := ⟨_, rfl⟩
    obtain ⟨b, hb'⟩ : ∃ b, b = uend c y L i := ⟨_, rfl⟩
    have cs := fun w T => Span_any c L y i a b 0 w (.inl ⟨uo, ha, hb', rfl⟩) hm T
    obtain ⟨l, hl⟩ : ∃ l, l = decide (LevOk M) := ⟨_, rfl⟩
    have cl := fun w => isLevel_any M l w hl
    have O : l = false ∨ (l = true ∧ decide (L < M) = true) := by
      rw [hl]
      by_cases h : LevOk M
      · refine .inr ⟨decide_eq_true h, decide_eq_true ?_⟩
        unfold LevOk at h; omega
      · exact .inl (decide_eq_false h)
    clear uo mm ha hb' hl
    rcases O with rfl | ⟨rfl, dl⟩
    all_goals
      go_enter Tryz.func13, Tryz.ntmps13
      go_upto_region 1 with fail
      generalize ((w.alloc (.cells #[.string c.nm, .int .i64 c.k, .int .i64 c.d, .int .i64 c.m, .int .i64 c.s, .int .i64 c.sh, .int .i64 c.p0, .int .i64 c.p1, .int .i64 c.p2, .int .i64 c.cy, .int .i64 c.ex, .int .i64 c.fi, .int .i64 c.la, .int .i64 c.po] 24)).alloc (.cells #[.int .i64 L, .int .i64 y, .int .i64 i] 26)).alloc (.cells #[.int .i64 0, .int .i64 0, .int .i64 0] 26) = W0 at *
      obtain ⟨_, c0, c1, c2, c3, c4, c5, c6, c7, c8, c9, c10, c11, c12, c13⟩ := id C
      obtain ⟨_, u0, u1, u2, fu0, fu1, fu2⟩ := id U
      obtain ⟨_, r0, r1, r2, g0, g1, g2⟩ := id K
      go_wp2_with fail
      refine (cs _ T).mono ?_
      rintro e w4 ⟨rfl, hb⟩
      replace C := C.kept hb
      replace B := bthen B hb
      replace T := T.kept hb
      replace U := U.kept hb
      replace K := K.kept hb
      clear hb c0 c1 c2 c3 c4 c5 c6 c7 c8 c9 c10 c11 c12 c13 u0 u1 u2 fu0 fu1 fu2 r0 r1 r2 g0 g1 g2
      obtain ⟨_, c0, c1, c2, c3, c4, c5, c6, c7, c8, c9, c10, c11, c12, c13⟩ := id C
      obtain ⟨_, u0, u1, u2, fu0, fu1, fu2⟩ := id U
      obtain ⟨_, r0, r1, r2, g0, g1, g2⟩ := id K
      have S := Go.Proofs.YtjiifmdjhdhabaaGreatDoor.Pr.Two.new w4 (.int .i64 a) (.int .i64 b) 32
      replace C := C.alloc (.cells #[.int .i64 a, .int .i64 b] 32)
      replace T := T.alloc (.cells #[.int .i64 a, .int .i64 b] 32)
      replace U := U.alloc (.cells #[.int .i64 a, .int .i64 b] 32)
      replace K := K.alloc (.cells #[.int .i64 a, .int .i64 b] 32)
      replace B := balloc B (.cells #[.int .i64 a, .int .i64 b] 32)
      clear c0 c1 c2 c3 c4 c5 c6 c7 c8 c9 c10 c11 c12 c13 u0 u1 u2 fu0 fu1 fu2 r0 r1 r2 g0 g1 g2
      obtain ⟨_, c0, c1, c2, c3, c4, c5, c6, c7, c8, c9, c10, c11, c12, c13⟩ := id C
      obtain ⟨_, u0, u1, u2, fu0, fu1, fu2⟩ := id U
      obtain ⟨_, r0, r1, r2, g0, g1, g2⟩ := id K
      obtain ⟨_, s0, s1, q0, q1⟩ := id S
      go_wp2_with fail
      refine (cl _).mono ?_
      rintro e w5 ⟨rfl, hb⟩
      replace C := C.kept hb
      replace B := bthen B hb
      replace T := T.kept hb
      replace U := U.kept hb
      replace K := K.kept hb
      replace S := S.kept hb
      clear hb c0 c1 c2 c3 c4 c5 c6 c7 c8 c9 c10 c11 c12 c13 u0 u1 u2 fu0 fu1 fu2 r0 r1 r2 g0 g1 g2 s0 s1 q0 q1
      obtain ⟨_, c0, c1, c2, c3, c4, c5, c6, c7, c8, c9, c10, c11, c12, c13⟩ := id C
      obtain ⟨_, u0, u1, u2, fu0, fu1, fu2⟩ := id U
      obtain ⟨_, r0, r1, r2, g0, g1, g2⟩ := id K
      obtain ⟨_, s0, s1, q0, q1⟩ := id S
      go_wp2
      refine bodyPost_ret (v := .tuple #[.agg #[.int .i64 0, .int .i64 0, .int .i64 0], .int .i64 1]) (by simp [results, Tryz.results13, go_sem, *]) rfl ⟨rfl, ?_⟩
      exact bset (bset (bset B (by omega) _ _) (by omega) _ _) (by omega) _ _
  · have cs := fun w T => Span_any c L y i 0 0 er w (.inr ⟨no, ck, rfl, rfl⟩) hm T
    have O := spana_no ck (fun q => no ((uchka_ok ck).1 q))
    clear no ck
    rcases O with rfl | rfl | rfl
    all_goals
      go_enter Tryz.func13, Tryz.ntmps13
      go_upto_region 1 with fail
      generalize ((w.alloc (.cells #[.string c.nm, .int .i64 c.k, .int .i64 c.d, .int .i64 c.m, .int .i64 c.s, .int .i64 c.sh, .int .i64 c.p0, .int .i64 c.p1, .int .i64 c.p2, .int .i64 c.cy, .int .i64 c.ex, .int .i64 c.fi, .int .i64 c.la, .int .i64 c.po] 24)).alloc (.cells #[.int .i64 L, .int .i64 y, .int .i64 i] 26)).alloc (.cells #[.int .i64 0, .int .i64 0, .int .i64 0] 26) = W0 at *
      obtain ⟨_, c0, c1, c2, c3, c4, c5, c6, c7, c8, c9, c10, c11, c12, c13⟩ := id C
      obtain ⟨_, u0, u1, u2, fu0, fu1, fu2⟩ := id U
      obtain ⟨_, r0, r1, r2, g0, g1, g2⟩ := id K
      go_wp2_with fail
      refine (cs _ T).mono ?_
      rintro e w6 ⟨rfl, hb⟩
      replace C := C.kept hb
      replace B := bthen B hb
      replace T := T.kept hb
      replace U := U.kept hb
      replace K := K.kept hb
      clear hb c0 c1 c2 c3 c4 c5 c6 c7 c8 c9 c10 c11 c12 c13 u0 u1 u2 fu0 fu1 fu2 r0 r1 r2 g0 g1 g2
      obtain ⟨_, c0, c1, c2, c3, c4, c5, c6, c7, c8, c9, c10, c11, c12, c13⟩ := id C
      obtain ⟨_, u0, u1, u2, fu0, fu1, fu2⟩ := id U
      obtain ⟨_, r0, r1, r2, g0, g1, g2⟩ := id K
      go_wp2
      refine bodyPost_ret (v := .tuple #[.agg #[.int .i64 0, .int .i64 0, .int .i64 0], .int .i64 _]) (by simp [results, Tryz.results13, go_sem, *]) rfl ⟨rfl, ?_⟩
      exact balloc (bset (bset (bset B (by omega) _ _) (by omega) _ _) (by omega) _ _) _

end Go.Proofs.YtjiifmdjhdhabaaGreatDoor.Ip
