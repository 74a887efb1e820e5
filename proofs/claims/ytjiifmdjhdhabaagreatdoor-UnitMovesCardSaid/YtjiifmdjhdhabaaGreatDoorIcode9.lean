/- What Down of package unit comes to. -/
import Derived.Test.YtjiifmdjhdhabaaGreatDoorIcode8
namespace Go.Proofs.YtjiifmdjhdhabaaGreatDoor.Ip
set_option linter.unusedSimpArgs false
set_option linter.unusedVariables false
open Go.RowKit Go.Proofs.YtjiifmdjhdhabaaGreatDoor.Bn Go.Proofs.YtjiifmdjhdhabaaGreatDoor.Bx Go.Proofs.YtjiifmdjhdhabaaGreatDoor.Cp Go.Proofs.YtjiifmdjhdhabaaGreatDoor.Am Go.Proofs.YtjiifmdjhdhabaaGreatDoor.Fp Go.Proofs.YtjiifmdjhdhabaaGreatDoor.Ap Go.Proofs.YtjiifmdjhdhabaaGreatDoor.Cm Go.Proofs.YtjiifmdjhdhabaaGreatDoor.Em Go.Proofs.YtjiifmdjhdhabaaGreatDoor.Ep Go.Proofs.YtjiifmdjhdhabaaGreatDoor.Rk Go.Proofs.YtjiifmdjhdhabaaGreatDoor.Hp

set_option maxHeartbeats 4000000

set_option maxRecDepth 100000 in
theorem Down_any (c : CalZ) (L y i M p q r s er : Int) (w : World) (R : DownA c L y i M p q r s er) (hm : c.nm.size ≤ maxLen) (T : FTab w) :
    Calls Tryz.prog 15 #[.agg #[.string c.nm, .int .i64 c.k, .int .i64 c.d, .int .i64 c.m, .int .i64 c.s, .int .i64 c.sh, .int .i64 c.p0, .int .i64 c.p1, .int .i64 c.p2, .int .i64 c.cy, .int .i64 c.ex, .int .i64 c.fi, .int .i64 c.la, .int .i64 c.po], .agg #[.int .i64 L, .int .i64 y, .int .i64 i], .int .i64 M] w fun e w' => e = .returned (.tuple #[.agg #[.int .i64 p, .int .i64 q, .int .i64 r], .agg #[.int .i64 p, .int .i64 q, .int .i64 s], .int .i64 er]) ∧ Below w.heap.size w w' := by
  have C := CalIn.new w c 24
  have B := balloc (Below.refl _ w) (.cells #[.string c.nm, .int .i64 c.k, .int .i64 c.d, .int .i64 c.m, .int .i64 c.s, .int .i64 c.sh, .int .i64 c.p0, .int .i64 c.p1, .int .i64 c.p2, .int .i64 c.cy, .int .i64 c.ex, .int .i64 c.fi, .int .i64 c.la, .int .i64 c.po] 24)
  replace T := T.alloc (.cells #[.string c.nm, .int .i64 c.k, .int .i64 c.d, .int .i64 c.m, .int .i64 c.s, .int .i64 c.sh, .int .i64 c.p0, .int .i64 c.p1, .int .i64 c.p2, .int .i64 c.cy, .int .i64 c.ex, .int .i64 c.fi, .int .i64 c.la, .int .i64 c.po] 24)
  have U := Go.Proofs.YtjiifmdjhdhabaaGreatDoor.Bx.Tri.new (w.alloc (.cells #[.string c.nm, .int .i64 c.k, .int .i64 c.d, .int .i64 c.m, .int .i64 c.s, .int .i64 c.sh, .int .i64 c.p0, .int .i64 c.p1, .int .i64 c.p2, .int .i64 c.cy, .int .i64 c.ex, .int .i64 c.fi, .int .i64 c.la, .int .i64 c.po] 24)) (.int .i64 L) (.int .i64 y) (.int .i64 i) 26
  rw [World.size_alloc] at U
  have K := Go.Proofs.YtjiifmdjhdhabaaGreatDoor.Bx.Tri.new ((w.alloc (.cells #[.string c.nm, .int .i64 c.k, .int .i64 c.d, .int .i64 c.m, .int .i64 c.s, .int .i64 c.sh, .int .i64 c.p0, .int .i64 c.p1, .int .i64 c.p2, .int .i64 c.cy, .int .i64 c.ex, .int .i64 c.fi, .int .i64 c.la, .int .i64 c.po] 24)).alloc (.cells #[.int .i64 L, .int .i64 y, .int .i64 i] 26)) (.int .i64 0) (.int .i64 0) (.int .i64 0) 26
  have zz : ((w.alloc (.cells #[.string c.nm, .int .i64 c.k, .int .i64 c.d, .int .i64 c.m, .int .i64 c.s, .int .i64 c.sh, .int .i64 c.p0, .int .i64 c.p1, .int .i64 c.p2, .int .i64 c.cy, .int .i64 c.ex, .int .i64 c.fi, .int .i64 c.la, .int .i64 c.po] 24)).alloc (.cells #[.int .i64 L, .int .i64 y, .int .i64 i] 26)).heap.size = w.heap.size + 2 := by simp
  rw [zz] at K
  have N := Go.Proofs.YtjiifmdjhdhabaaGreatDoor.Bx.Tri.new (((w.alloc (.cells #[.string c.nm, .int .i64 c.k, .int .i64 c.d, .int .i64 c.m, .int .i64 c.s, .int .i64 c.sh, .int .i64 c.p0, .int .i64 c.p1, .int .i64 c.p2, .int .i64 c.cy, .int .i64 c.ex, .int .i64 c.fi, .int .i64 c.la, .int .i64 c.po] 24)).alloc (.cells #[.int .i64 L, .int .i64 y, .int .i64 i] 26)).alloc (.cells #[.int .i64 0, .int .i64 0, .int .i64 0] 26)) (.int .i64 0) (.int .i64 0) (.int .i64 0) 26
  have zz3 : (((w.alloc (.cells #[.string c.nm, .int .i64 c.k, .int .i64 c.d, .int .i64 c.m, .int .i64 c.s, .int .i64 c.sh, .int .i64 c.p0, .int .i64 c.p1, .int .i64 c.p2, .int .i64 c.cy, .int .i64 c.ex, .int .i64 c.fi, .int .i64 c.la, .int .i64 c.po] 24)).alloc (.cells #[.int .i64 L, .int .i64 y, .int .i64 i] 26)).alloc (.cells #[.int .i64 0, .int .i64 0, .int .i64 0] 26)).heap.size = w.heap.size + 3 := by simp
  rw [zz3] at N
  replace U := (U.alloc (.cells #[.int .i64 0, .int .i64 0, .int .i64 0] 26)).alloc (.cells #[.int .i64 0, .int .i64 0, .int .i64 0] 26)
  replace K := K.alloc (.cells #[.int .i64 0, .int .i64 0, .int .i64 0] 26)
  replace C := ((C.alloc (.cells #[.int .i64 L, .int .i64 y, .int .i64 i] 26)).alloc (.cells #[.int .i64 0, .int .i64 0, .int .i64 0] 26)).alloc (.cells #[.int .i64 0, .int .i64 0, .int .i64 0] 26)
  replace B := balloc (balloc (balloc B (.cells #[.int .i64 L, .int .i64 y, .int .i64 i] 26)) (.cells #[.int .i64 0, .int .i64 0, .int .i64 0] 26)) (.cells #[.int .i64 0, .int .i64 0, .int .i64 0] 26)
  replace T := ((T.alloc (.cells #[.int .i64 L, .int .i64 y, .int .i64 i] 26)).alloc (.cells #[.int .i64 0, .int .i64 0, .int .i64 0] 26)).alloc (.cells #[.int .i64 0, .int .i64 0, .int .i64 0] 26)
  clear zz zz3
  rcases R with ⟨uo, m0, m1, hr, hs, rfl, rfl, rfl⟩ | ⟨uo, mm, rfl, rfl, rfl, rfl, rfl⟩ | ⟨no, ck, rfl, rfl, rfl, rfl⟩
  · have ud := unit_days uo
    obtain ⟨a, ha⟩ : ∃ a, a = uend c q L (i - 1) + 1 := ⟨_, rfl⟩
    obtain ⟨b, hb'⟩ : ∃ b, b = uend c q L i := ⟨_, rfl⟩
    have cs := fun w T => Span_any c L q i a b 0 w (.inl ⟨uo, ha, hb', rfl⟩) hm T
    have cl := fun w => isLevel_any p true w (decide_eq_true ⟨by omega, m1⟩).symm
    have ca := fun w T => fat_any c q p a r w uo.1 (by omega) (by omega) ⟨by omega, m1⟩ (by rw [ha]; exact hr) hm T
    have cb := fun w T => fat_any c q p b s w uo.1 (by omega) (by omega) ⟨by omega, m1⟩ (by rw [hb']; exact hs) hm T
    have dl : decide (p < L) = false := decide_eq_false (by omega)
    clear uo hr hs ha hb' ud m0 m1
    have : True := trivial
    go_enter Tryz.func15, Tryz.ntmps15
    go_upto_region 1 with fail
    generalize (((w.alloc (.cells #[.string c.nm, .int .i64 c.k, .int .i64 c.d, .int .i64 c.m, .int .i64 c.s, .int .i64 c.sh, .int .i64 c.p0, .int .i64 c.p1, .int .i64 c.p2, .int .i64 c.cy, .int .i64 c.ex, .int .i64 c.fi, .int .i64 c.la, .int .i64 c.po] 24)).alloc (.cells #[.int .i64 L, .int .i64 q, .int .i64 i] 26)).alloc (.cells #[.int .i64 0, .int .i64 0, .int .i64 0] 26)).alloc (.cells #[.int .i64 0, .int .i64 0, .int .i64 0] 26) = W0 at *
    obtain ⟨_, c0, c1, c2, c3, c4, c5, c6, c7, c8, c9, c10, c11, c12, c13⟩ := id C
    obtain ⟨_, u0, u1, u2, fu0, fu1, fu2⟩ := id U
    obtain ⟨_, r0, r1, r2, g0, g1, g2⟩ := id K
    obtain ⟨_, n0, n1, n2, h0, h1, h2⟩ := id N
    go_wp2_with fail
    refine (cs _ T).mono ?_
    rintro e w1 ⟨rfl, hb⟩
    replace C := C.kept hb
    replace B := bthen B hb
    replace T := T.kept hb
    replace U := U.kept hb
    replace K := K.kept hb
    replace N := N.kept hb
    clear hb c0 c1 c2 c3 c4 c5 c6 c7 c8 c9 c10 c11 c12 c13 u0 u1 u2 fu0 fu1 fu2 r0 r1 r2 g0 g1 g2 n0 n1 n2 h0 h1 h2
    obtain ⟨_, c0, c1, c2, c3, c4, c5, c6, c7, c8, c9, c10, c11, c12, c13⟩ := id C
    obtain ⟨_, u0, u1, u2, fu0, fu1, fu2⟩ := id U
    obtain ⟨_, r0, r1, r2, g0, g1, g2⟩ := id K
    obtain ⟨_, n0, n1, n2, h0, h1, h2⟩ := id N
    have S := Go.Proofs.YtjiifmdjhdhabaaGreatDoor.Pr.Two.new w1 (.int .i64 a) (.int .i64 b) 32
    replace C := C.alloc (.cells #[.int .i64 a, .int .i64 b] 32)
    replace T := T.alloc (.cells #[.int .i64 a, .int .i64 b] 32)
    replace U := U.alloc (.cells #[.int .i64 a, .int .i64 b] 32)
    replace K := K.alloc (.cells #[.int .i64 a, .int .i64 b] 32)
    replace N := N.alloc (.cells #[.int .i64 a, .int .i64 b] 32)
    replace B := balloc B (.cells #[.int .i64 a, .int .i64 b] 32)
    clear c0 c1 c2 c3 c4 c5 c6 c7 c8 c9 c10 c11 c12 c13 u0 u1 u2 fu0 fu1 fu2 r0 r1 r2 g0 g1 g2 n0 n1 n2 h0 h1 h2
    obtain ⟨_, c0, c1, c2, c3, c4, c5, c6, c7, c8, c9, c10, c11, c12, c13⟩ := id C
    obtain ⟨_, u0, u1, u2, fu0, fu1, fu2⟩ := id U
    obtain ⟨_, r0, r1, r2, g0, g1, g2⟩ := id K
    obtain ⟨_, n0, n1, n2, h0, h1, h2⟩ := id N
    obtain ⟨_, s0, s1, q0, q1⟩ := id S
    go_wp2_with fail
    refine (cl _).mono ?_
    rintro e w2 ⟨rfl, hb⟩
    replace C := C.kept hb
    replace B := bthen B hb
    replace T := T.kept hb
    replace U := U.kept hb
    replace K := K.kept hb
    replace N := N.kept hb
    replace S := S.kept hb
    clear hb c0 c1 c2 c3 c4 c5 c6 c7 c8 c9 c10 c11 c12 c13 u0 u1 u2 fu0 fu1 fu2 r0 r1 r2 g0 g1 g2 n0 n1 n2 h0 h1 h2 s0 s1 q0 q1
    obtain ⟨_, c0, c1, c2, c3, c4, c5, c6, c7, c8, c9, c10, c11, c12, c13⟩ := id C
    obtain ⟨_, u0, u1, u2, fu0, fu1, fu2⟩ := id U
    obtain ⟨_, r0, r1, r2, g0, g1, g2⟩ := id K
    obtain ⟨_, n0, n1, n2, h0, h1, h2⟩ := id N
    obtain ⟨_, s0, s1, q0, q1⟩ := id S
    go_wp2
    have D := FisIn.new w2 c q 47
    replace C := C.alloc ((.cells #[.string c.nm, .int .i64 c.k, .int .i64 c.d, .int .i64 c.m, .int .i64 c.s, .int .i64 c.sh, .int .i64 c.p0, .int .i64 c.p1, .int .i64 c.p2, .int .i64 c.cy, .int .i64 c.ex, .int .i64 c.fi, .int .i64 c.la, .int .i64 c.po, .int .i64 q] 47))
    replace T := T.alloc ((.cells #[.string c.nm, .int .i64 c.k, .int .i64 c.d, .int .i64 c.m, .int .i64 c.s, .int .i64 c.sh, .int .i64 c.p0, .int .i64 c.p1, .int .i64 c.p2, .int .i64 c.cy, .int .i64 c.ex, .int .i64 c.fi, .int .i64 c.la, .int .i64 c.po, .int .i64 q] 47))
    replace U := U.alloc ((.cells #[.string c.nm, .int .i64 c.k, .int .i64 c.d, .int .i64 c.m, .int .i64 c.s, .int .i64 c.sh, .int .i64 c.p0, .int .i64 c.p1, .int .i64 c.p2, .int .i64 c.cy, .int .i64 c.ex, .int .i64 c.fi, .int .i64 c.la, .int .i64 c.po, .int .i64 q] 47))
    replace K := K.alloc ((.cells #[.string c.nm, .int .i64 c.k, .int .i64 c.d, .int .i64 c.m, .int .i64 c.s, .int .i64 c.sh, .int .i64 c.p0, .int .i64 c.p1, .int .i64 c.p2, .int .i64 c.cy, .int .i64 c.ex, .int .i64 c.fi, .int .i64 c.la, .int .i64 c.po, .int .i64 q] 47))
    replace N := N.alloc ((.cells #[.string c.nm, .int .i64 c.k, .int .i64 c.d, .int .i64 c.m, .int .i64 c.s, .int .i64 c.sh, .int .i64 c.p0, .int .i64 c.p1, .int .i64 c.p2, .int .i64 c.cy, .int .i64 c.ex, .int .i64 c.fi, .int .i64 c.la, .int .i64 c.po, .int .i64 q] 47))
    replace S := S.alloc ((.cells #[.string c.nm, .int .i64 c.k, .int .i64 c.d, .int .i64 c.m, .int .i64 c.s, .int .i64 c.sh, .int .i64 c.p0, .int .i64 c.p1, .int .i64 c.p2, .int .i64 c.cy, .int .i64 c.ex, .int .i64 c.fi, .int .i64 c.la, .int .i64 c.po, .int .i64 q] 47))
    replace B := balloc B ((.cells #[.string c.nm, .int .i64 c.k, .int .i64 c.d, .int .i64 c.m, .int .i64 c.s, .int .i64 c.sh, .int .i64 c.p0, .int .i64 c.p1, .int .i64 c.p2, .int .i64 c.cy, .int .i64 c.ex, .int .i64 c.fi, .int .i64 c.la, .int .i64 c.po, .int .i64 q] 47))
    clear c0 c1 c2 c3 c4 c5 c6 c7 c8 c9 c10 c11 c12 c13 u0 u1 u2 fu0 fu1 fu2 r0 r1 r2 g0 g1 g2 n0 n1 n2 h0 h1 h2 s0 s1 q0 q1
    obtain ⟨_, c0, c1, c2, c3, c4, c5, c6, c7, c8, c9, c10, c11, c12, c13⟩ := id C
    obtain ⟨_, u0, u1, u2, fu0, fu1, fu2⟩ := id U
    obtain ⟨_, r0, r1, r2, g0, g1, g2⟩ := id K
    obtain ⟨_, n0, n1, n2, h0, h1, h2⟩ := id N
    obtain ⟨_, s0, s1, q0, q1⟩ := id S
    generalize w2.alloc (.cells #[.string c.nm, .int .i64 c.k, .int .i64 c.d, .int .i64 c.m, .int .i64 c.s, .int .i64 c.sh, .int .i64 c.p0, .int .i64 c.p1, .int .i64 c.p2, .int .i64 c.cy, .int .i64 c.ex, .int .i64 c.fi, .int .i64 c.la, .int .i64 c.po, .int .i64 q] 47) = W8 at *
    obtain ⟨⟨_, d0, d1, d2, d3, d4, d5, d6, d7, d8, d9, d10, d11, d12, d13⟩, d14⟩ := id D
    have qA := fun d os => Calls.regrown_of (ca (Go.Sort.grow (redrawn W8 d) os) (T.kept (below_regrown W8 d os)))
    have qB := fun d os => Calls.regrown_of (cb (Go.Sort.grow (redrawn W8 d) os) (T.kept (below_regrown W8 d os)))
    have k0 := cell_regrown d0
    have k1 := cell_regrown d1
    have k2 := cell_regrown d2
    have k3 := cell_regrown d3
    have k4 := cell_regrown d4
    have k5 := cell_regrown d5
    have k6 := cell_regrown d6
    have k7 := cell_regrown d7
    have k8 := cell_regrown d8
    have k9 := cell_regrown d9
    have k10 := cell_regrown d10
    have k11 := cell_regrown d11
    have k12 := cell_regrown d12
    have k13 := cell_regrown d13
    have k14 := cell_regrown d14
    have ks0 := cell_regrown s0
    have ks1 := cell_regrown s1
    clear d0 d1 d2 d3 d4 d5 d6 d7 d8 d9 d10 d11 d12 d13 d14 C U S D
    clear c0 c1 c2 c3 c4 c5 c6 c7 c8 c9 c10 c11 c12 c13 u0 u1 u2 fu0 fu1 fu2 s0 s1 q0 q1 r0 r1 r2 g0 g1 g2 n0 n1 n2 h0 h1 h2
    refine Go.Proofs.YtjiifmdjhdhabaaGreatDoor.Qt.wp_region_below_tail 10 (by kernel_rfl) (by kernel_rfl) ?_
    simp only [List.take_succ_cons, List.take_zero, List.drop_succ_cons, List.drop_zero]
    repeat (quiet_step (first | (with_reducible exact qA _ _) | (with_reducible exact qB _ _)))
    refine wpQuiet_nil ?_
    intro _ hw'
    obtain ⟨⟨dq, osq⟩, hw''⟩ := hw'
    subst hw''
    have hb := below_regrown W8 dq osq
    generalize Go.Sort.grow (redrawn W8 dq) osq = w9 at hb ⊢
    replace K := K.kept hb
    replace N := N.kept hb
    replace B := bthen B hb
    obtain ⟨_, r0, r1, r2, g0, g1, g2⟩ := id K
    obtain ⟨_, n0, n1, n2, h0, h1, h2⟩ := id N
    go_wp2
    refine bodyPost_ret (v := .tuple #[.agg #[.int .i64 p, .int .i64 q, .int .i64 r], .agg #[.int .i64 p, .int .i64 q, .int .i64 s], .int .i64 0]) (by simp [results, Tryz.results15, go_sem, *]) rfl ⟨rfl, ?_⟩
    exact bset (bset (bset (bset (bset (bset B (by omega) _ _) (by omega) _ _) (by omega) _ _) (by omega) _ _) (by omega) _ _) (by omega) _ _
  · obtain ⟨a, ha⟩ : ∃ a, a = uend c y L (i - 1) + 1 := ⟨_, rfl⟩
    obtain ⟨b, hb'⟩ : ∃ b, b = uend c y L i := ⟨_, rfl⟩
    have cs := fun w T => Span_any c L y i a b 0 w (.inl ⟨uo, ha, hb', rfl⟩) hm T
    obtain ⟨l, hl⟩ : ∃ l, l = decide (LevOk M) := ⟨_, rfl⟩
    have cl := fun w => isLevel_any M l w hl
    have O : l = false ∨ (l = true ∧ decide (M < L) = true) := by
      rw [hl]
      by_cases h : LevOk M
      · refine .inr ⟨decide_eq_true h, decide_eq_true ?_⟩
        unfold LevOk at h; omega
      · exact .inl (decide_eq_false h)
    clear uo mm ha hb' hl
    rcases O with rfl | ⟨rfl, dl⟩
    all_goals
      go_enter Tryz.func15, Tryz.ntmps15
      go_upto_region 1 with fail
      generalize (((w.alloc (.cells #[.string c.nm, .int .i64 c.k, .int .i64 c.d, .int .i64 c.m, .int .i64 c.s, .int .i64 c.sh, .int .i64 c.p0, .int .i64 c.p1, .int .i64 c.p2, .int .i64 c.cy, .int .i64 c.ex, .int .i64 c.fi, .int .i64 c.la, .int .i64 c.po] 24)).alloc (.cells #[.int .i64 L, .int .i64 y, .int .i64 i] 26)).alloc (.cells #[.int .i64 0, .int .i64 0, .int .i64 0] 26)).alloc (.cells #[.int .i64 0, .int .i64 0, .int .i64 0] 26) = W0 at *
      obtain ⟨_, c0, c1, c2, c3, c4, c5, c6, c7, c8, c9, c10, c11, c12, c13⟩ := id C
      obtain ⟨_, u0, u1, u2, fu0, fu1, fu2⟩ := id U
      obtain ⟨_, r0, r1, r2, g0, g1, g2⟩ := id K
      obtain ⟨_, n0, n1, n2, h0, h1, h2⟩ := id N
      go_wp2_with fail
      refine (cs _ T).mono ?_
      rintro e w3 ⟨rfl, hb⟩
      replace C := C.kept hb
      replace B := bthen B hb
      replace T := T.kept hb
      replace U := U.kept hb
      replace K := K.kept hb
      replace N := N.kept hb
      clear hb c0 c1 c2 c3 c4 c5 c6 c7 c8 c9 c10 c11 c12 c13 u0 u1 u2 fu0 fu1 fu2 r0 r1 r2 g0 g1 g2 n0 n1 n2 h0 h1 h2
      obtain ⟨_, c0, c1, c2, c3, c4, c5, c6, c7, c8, c9, c10, c11, c12, c13⟩ := id C
      obtain ⟨_, u0, u1, u2, fu0, fu1, fu2⟩ := id U
      obtain ⟨_, r0, r1, r2, g0, g1, g2⟩ := id K
      obtain ⟨_, n0, n1, n2, h0, h1, h2⟩ := id N
      have S := Go.Proofs.YtjiifmdjhdhabaaGreatDoor.Pr.Two.new w3 (.int .i64 a) (.int .i64 b) 32
      replace C := C.alloc (.cells #[.int .i64 a, .int .i64 b] 32)
      replace T := T.alloc (.cells #[.int .i64 a, .int .i64 b] 32)
      replace U := U.alloc (.cells #[.int .i64 a, .int .i64 b] 32)
      replace K := K.alloc (.cells #[.int .i64 a, .int .i64 b] 32)
      replace N := N.alloc (.cells #[.int .i64 a, .int .i64 b] 32)
      replace B := balloc B (.cells #[.int .i64 a, .int .i64 b] 32)
      clear c0 c1 c2 c3 c4 c5 c6 c7 c8 c9 c10 c11 c12 c13 u0 u1 u2 fu0 fu1 fu2 r0 r1 r2 g0 g1 g2 n0 n1 n2 h0 h1 h2
      obtain ⟨_, c0, c1, c2, c3, c4, c5, c6, c7, c8, c9, c10, c11, c12, c13⟩ := id C
      obtain ⟨_, u0, u1, u2, fu0, fu1, fu2⟩ := id U
      obtain ⟨_, r0, r1, r2, g0, g1, g2⟩ := id K
      obtain ⟨_, n0, n1, n2, h0, h1, h2⟩ := id N
      obtain ⟨_, s0, s1, q0, q1⟩ := id S
      go_wp2_with fail
      refine (cl _).mono ?_
      rintro e w4 ⟨rfl, hb⟩
      replace C := C.kept hb
      replace B := bthen B hb
      replace T := T.kept hb
      replace U := U.kept hb
      replace K := K.kept hb
      replace N := N.kept hb
      replace S := S.kept hb
      clear hb c0 c1 c2 c3 c4 c5 c6 c7 c8 c9 c10 c11 c12 c13 u0 u1 u2 fu0 fu1 fu2 r0 r1 r2 g0 g1 g2 n0 n1 n2 h0 h1 h2 s0 s1 q0 q1
      obtain ⟨_, c0, c1, c2, c3, c4, c5, c6, c7, c8, c9, c10, c11, c12, c13⟩ := id C
      obtain ⟨_, u0, u1, u2, fu0, fu1, fu2⟩ := id U
      obtain ⟨_, r0, r1, r2, g0, g1, g2⟩ := id K
      obtain ⟨_, n0, n1, n2, h0, h1, h2⟩ := id N
      obtain ⟨_, s0, s1, q0, q1⟩ := id S
      go_wp2
      refine bodyPost_ret (v := .tuple #[.agg #[.int .i64 0, .int .i64 0, .int .i64 0], .agg #[.int .i64 0, .int .i64 0, .int .i64 0], .int .i64 1]) (by simp [results, Tryz.results15, go_sem, *]) rfl ⟨rfl, ?_⟩
      exact bset (bset (bset (bset (bset (bset B (by omega) _ _) (by omega) _ _) (by omega) _ _) (by omega) _ _) (by omega) _ _) (by omega) _ _
  · have cs := fun w T => Span_any c L y i 0 0 er w (.inr ⟨no, ck, rfl, rfl⟩) hm T
    have O := spana_no ck (fun q => no ((uchka_ok ck).1 q))
    clear no ck
    rcases O with rfl | rfl | rfl
    all_goals
      go_enter Tryz.func15, Tryz.ntmps15
      go_upto_region 1 with fail
      generalize (((w.alloc (.cells #[.string c.nm, .int .i64 c.k, .int .i64 c.d, .int .i64 c.m, .int .i64 c.s, .int .i64 c.sh, .int .i64 c.p0, .int .i64 c.p1, .int .i64 c.p2, .int .i64 c.cy, .int .i64 c.ex, .int .i64 c.fi, .int .i64 c.la, .int .i64 c.po] 24)).alloc (.cells #[.int .i64 L, .int .i64 y, .int .i64 i] 26)).alloc (.cells #[.int .i64 0, .int .i64 0, .int .i64 0] 26)).alloc (.cells #[.int .i64 0, .int .i64 0, .int .i64 0] 26) = W0 at *
      obtain ⟨_, c0, c1, c2, c3, c4, c5, c6, c7, c8, c9, c10, c11, c12, c13⟩ := id C
      obtain ⟨_, u0, u1, u2, fu0, fu1, fu2⟩ := id U
      obtain ⟨_, r0, r1, r2, g0, g1, g2⟩ := id K
      obtain ⟨_, n0, n1, n2, h0, h1, h2⟩ := id N
      go_wp2_with fail
      refine (cs _ T).mono ?_
      rintro e w5 ⟨rfl, hb⟩
      replace C := C.kept hb
      replace B := bthen B hb
      replace T := T.kept hb
      replace U := U.kept hb
      replace K := K.kept hb
      replace N := N.kept hb
      clear hb c0 c1 c2 c3 c4 c5 c6 c7 c8 c9 c10 c11 c12 c13 u0 u1 u2 fu0 fu1 fu2 r0 r1 r2 g0 g1 g2 n0 n1 n2 h0 h1 h2
      obtain ⟨_, c0, c1, c2, c3, c4, c5, c6, c7, c8, c9, c10, c11, c12, c13⟩ := id C
      obtain ⟨_, u0, u1, u2, fu0, fu1, fu2⟩ := id U
      obtain ⟨_, r0, r1, r2, g0, g1, g2⟩ := id K
      obtain ⟨_, n0, n1, n2, h0, h1, h2⟩ := id N
      go_wp2
      refine bodyPost_ret (v := .tuple #[.agg #[.int .i64 0, .int .i64 0, .int .i64 0], .agg #[.int .i64 0, .int .i64 0, .int .i64 0], .int .i64 _]) (by simp [results, Tryz.results15, go_sem, *]) rfl ⟨rfl, ?_⟩
      exact balloc (bset (bset (bset (bset (bset (bset B (by omega) _ _) (by omega) _ _) (by omega) _ _) (by omega) _ _) (by omega) _ _) (by omega) _ _) _

end Go.Proofs.YtjiifmdjhdhabaaGreatDoor.Ip
