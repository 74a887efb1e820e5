/- What Mul of the reference of layer 2 comes to. -/
import Derived.Test.YtmngbhkokglmjaaRadd
import Derived.Test.YtmngbhkokglmjaaRmath3
namespace Go.Proofs.Ytmngbhkokglmjaa.Vr
open Go.RowKit Go.Proofs.Ytmngbhkokglmjaa.Vm Go.Proofs.Ytmngbhkokglmjaa.Vc Go.Proofs.Ytmngbhkokglmjaa.Vl
attribute [local go_sem] alloc_drewN setCell_drewN

set_option maxHeartbeats 4000000

/-- the four digits of a size -/
theorem d4_ex {x : Int} (h0 : 0 ≤ x) (h1 : x ≤ 9223372036854775808) : ∃ d0 d1 d2 d3 : Int, Dg d0 ∧ Dg d1 ∧ Dg d2 ∧ Dg d3 ∧ x = d0 + d1 * 65536 + d2 * 4294967296 + d3 * 281474976710656 ∧ D8 (num 0 x) d0 d1 d2 d3 0 0 0 0 := by
  refine ⟨x % 65536, x / 65536 % 65536, x / 4294967296 % 65536, x / 281474976710656 % 65536, ?_⟩
  unfold D8 Dg num
  omega

theorem sgn_prod (a b : Int) (s : Bool) (hs : (decide (a < 0) != decide (b < 0)) = s) : sgn s ((a.natAbs : Int) * (b.natAbs : Int)) = a * b := by
  subst hs
  unfold sgn
  by_cases ha : a < 0 <;> by_cases hb : b < 0
  · simp only [ha, hb, decide_true, bne_self_eq_false, Bool.false_eq_true, if_false]
    exact prod_same (.inl ⟨ha, hb⟩)
  · simp only [ha, hb, decide_true, decide_false]
    rw [if_pos (by decide), prod_diff (.inl ⟨ha, by omega⟩), Int.neg_neg]
  · simp only [ha, hb, decide_true, decide_false]
    rw [if_pos (by decide), prod_diff (.inr ⟨by omega, hb⟩), Int.neg_neg]
  · simp only [ha, hb, decide_false, bne_self_eq_false, Bool.false_eq_true, if_false]
    exact prod_same (.inr ⟨by omega, by omega⟩)

/-- what a round's statement comes to, in the walk's own words -/
theorem pk0 {x y g r c : Int} (h : x * y = g ∧ 0 ≤ g ∧ g ≤ 4294836225 ∧ g % 65536 = r ∧ g / 65536 = c ∧ 0 ≤ c ∧ c ≤ 65535) :
    ∃ t, IntKind.u64.wrap (x * y) = t ∧ IntKind.u64.wrap t = t ∧ 0 ≤ t ∧ t ≤ 4294967295 ∧ t % 65536 = r ∧ t / 65536 = c ∧ t.tmod 65536 = r ∧ t.tdiv 65536 = c ∧ 0 ≤ r ∧ r ≤ 65535 ∧ 0 ≤ c ∧ c ≤ 65535 := by
  obtain ⟨e, h0, h1, hr, hc, h2, h3⟩ := h
  refine ⟨g, by rw [e, IntKind.wrap_u64]; omega, by rw [IntKind.wrap_u64]; omega, h0, by omega, hr, hc, by rw [Int.tmod_eq_emod_of_nonneg h0]; exact hr, by rw [Int.tdiv_eq_ediv_of_nonneg h0]; exact hc, by omega, by omega, h2, h3⟩
theorem pkm {x y m g r c : Int} (h : x * y = g ∧ 0 ≤ g ∧ g ≤ 4294836225 ∧ (m + g) % 65536 = r ∧ (m + g) / 65536 = c ∧ 0 ≤ c ∧ c ≤ 65535 ∧ 0 ≤ m ∧ m ≤ 65535) :
    ∃ s t, IntKind.u64.wrap (x * y) = s ∧ IntKind.u64.wrap s = s ∧ IntKind.u64.wrap (m + s) = t ∧ IntKind.u64.wrap t = t ∧ 0 ≤ t ∧ t ≤ 4294967295 ∧ t % 65536 = r ∧ t / 65536 = c ∧ t.tmod 65536 = r ∧ t.tdiv 65536 = c ∧ 0 ≤ r ∧ r ≤ 65535 ∧ 0 ≤ c ∧ c ≤ 65535 := by
  obtain ⟨e, h0, h1, hr, hc, h2, h3, h4, h5⟩ := h
  have ht : 0 ≤ m + g := by omega
  refine ⟨g, m + g, by rw [e, IntKind.wrap_u64]; omega, by rw [IntKind.wrap_u64]; omega, by rw [IntKind.wrap_u64]; omega, by rw [IntKind.wrap_u64]; omega, ht, by omega, hr, hc, by rw [Int.tmod_eq_emod_of_nonneg ht]; exact hr, by rw [Int.tdiv_eq_ediv_of_nonneg ht]; exact hc, by omega, by omega, h2, h3⟩
theorem pko {x y m o g r c : Int} (h : x * y = g ∧ 0 ≤ g ∧ g ≤ 4294836225 ∧ (m + (o + g)) % 65536 = r ∧ (m + (o + g)) / 65536 = c ∧ 0 ≤ c ∧ c ≤ 65535 ∧ 0 ≤ m ∧ m ≤ 65535 ∧ 0 ≤ o ∧ o ≤ 65535) :
    ∃ u s t, IntKind.u64.wrap (x * y) = u ∧ IntKind.u64.wrap (o + u) = s ∧ IntKind.u64.wrap (m + s) = t ∧ IntKind.u64.wrap t = t ∧ 0 ≤ t ∧ t ≤ 4294967295 ∧ t % 65536 = r ∧ t / 65536 = c ∧ t.tmod 65536 = r ∧ t.tdiv 65536 = c ∧ 0 ≤ r ∧ r ≤ 65535 ∧ 0 ≤ c ∧ c ≤ 65535 := by
  obtain ⟨e, h0, h1, hr, hc, h2, h3, h4, h5, h6, h7⟩ := h
  have ht : 0 ≤ m + (o + g) := by omega
  refine ⟨g, o + g, m + (o + g), by rw [e, IntKind.wrap_u64]; omega, by rw [IntKind.wrap_u64]; omega, by rw [IntKind.wrap_u64]; omega, by rw [IntKind.wrap_u64]; omega, ht, by omega, hr, hc, by rw [Int.tmod_eq_emod_of_nonneg ht]; exact hr, by rw [Int.tdiv_eq_ediv_of_nonneg ht]; exact hc, by omega, by omega, h2, h3⟩

theorem rMul_to (a b h l : Int) (w : World) (fa : Fit1 a) (fb : Fit1 b) (bd : Bd h l) (hn : num h l = a * b) :
    Calls Try.prog 37 #[.int .i64 a, .int .i64 b] w fun e w' => e = .returned (.agg #[.int .i64 h, .int .u64 l]) ∧ Below w.heap.size w w' := by
  obtain ⟨x0, x1, x2, x3, a0, a1, a2, a3, ex, DX⟩ := d4_ex (x := (a.natAbs : Int)) (by omega) (by unfold Fit1 at fa; omega)
  obtain ⟨y0, y1, y2, y3, b0, b1, b2, b3, ey, DY⟩ := d4_ex (x := (b.natAbs : Int)) (by omega) (by unfold Fit1 at fb; omega)
  have ca := fun w => rsize_any a w fa
  have cb := fun w => rsize_any b w fb
  have pa := fun s w => put_at s 0 (a.natAbs : Int) x0 x1 x2 x3 0 0 0 0 w (by omega) (by omega) (by omega) (by unfold Fit1 at fa; omega) DX
  have pb := fun s w => put_at s 0 (b.natAbs : Int) y0 y1 y2 y3 0 0 0 0 w (by omega) (by omega) (by omega) (by unfold Fit1 at fb; omega) DY
  obtain ⟨g00, g01, g02, g03, g10, g11, g12, g13, g20, g21, g22, g23, g30, g31, g32, g33, r00, r01, r02, r03, r10, r11, r12, r13, r20, r21, r22, r23, r30, r31, r32, r33, c00, c01, c02, c03, c10, c11, c12, c13, c20, c21, c22, c23, c30, c31, c32, c33, H00, H01, H02, H03, H10, H11, H12, H13, H20, H21, H22, H23, H30, H31, H32, H33, DR⟩ := mul_ex a0 a1 a2 a3 b0 b1 b2 b3 ex ey
  have bk := fun s w => back_tells s ((a.natAbs : Int) * (b.natAbs : Int)) r00 r10 r20 r30 r31 r32 r33 c33 w DR
  obtain ⟨sa, hsa⟩ : ∃ s, decide (a < 0) = s := ⟨_, rfl⟩
  obtain ⟨sb, hsb⟩ : ∃ s, decide (b < 0) = s := ⟨_, rfl⟩
  obtain ⟨so, hso⟩ : ∃ s, (!(sa == sb)) = s := ⟨_, rfl⟩
  have sp := sgn_prod a b so (by rw [hsa, hsb]; exact hso)
  have key : ∀ h' l' (is : Bool), ((is = true ∧ Res (sgn so ((a.natAbs : Int) * (b.natAbs : Int))) h' l' 0) ∨ (is = false ∧ ¬ Fits (sgn so ((a.natAbs : Int) * (b.natAbs : Int))))) → h = h' ∧ l = l' := by
    intro h' l' is r
    rw [sp] at r
    rcases r with ⟨_, r⟩ | ⟨_, r⟩
    · have := res_unique (Or.inl ⟨rfl, hn, bd⟩) r
      exact ⟨this.1, this.2.1⟩
    · exact absurd (hn ▸ bd_fits bd) r
  replace key := Lib.hid key
  clear ex ey DX DY DR sp hn bd fa fb a0 a1 a2 a3 b0 b1 b2 b3
  generalize (a.natAbs : Int) = x at *
  generalize (b.natAbs : Int) = y at *
  go_enter Try.func37, Try.ntmps37
  go_wp2_with fail
  refine (ca _).mono ?_
  rintro e w' ⟨rfl, rfl⟩
  go_wp2_with fail
  refine (pa _ _).mono ?_
  rintro e w' ⟨rfl, rfl⟩
  go_wp2_with fail
  refine (cb _).mono ?_
  rintro e w' ⟨rfl, rfl⟩
  go_wp2_with fail
  refine (pb _ _).mono ?_
  rintro e w' ⟨rfl, rfl⟩
  clear ca cb pa pb
  go_wp2
  refine wp_loop_rounds 5 ?_
  rw [rounds_succ]
  go_wp2
  refine wp_loop_rounds 5 ?_
  obtain ⟨t, h0, h1, h2, h3, h4, h5, h6, h7, h8, h9, h10, h11⟩ := pk0 H00.out
  rw [rounds_succ]
  go_wp2
  go_quiet (fail)
  go_wp2
  clear h0 h1 h2 h3 h4 h5 h6 h7 h8 h9 h10 h11 H00
  obtain ⟨s, t, h0, h1, h2, h3, h4, h5, h6, h7, h8, h9, h10, h11, h12, h13⟩ := pkm H01.out
  rw [rounds_succ]
  go_wp2
  go_quiet (fail)
  go_wp2
  clear h0 h1 h2 h3 h4 h5 h6 h7 h8 h9 h10 h11 h12 h13 H01
  obtain ⟨s, t, h0, h1, h2, h3, h4, h5, h6, h7, h8, h9, h10, h11, h12, h13⟩ := pkm H02.out
  rw [rounds_succ]
  go_wp2
  go_quiet (fail)
  go_wp2
  clear h0 h1 h2 h3 h4 h5 h6 h7 h8 h9 h10 h11 h12 h13 H02
  obtain ⟨s, t, h0, h1, h2, h3, h4, h5, h6, h7, h8, h9, h10, h11, h12, h13⟩ := pkm H03.out
  rw [rounds_succ]
  go_wp2
  go_quiet (fail)
  go_wp2
  rw [rounds_succ]
  go_wp2
  clear h0 h1 h2 h3 h4 h5 h6 h7 h8 h9 h10 h11 h12 h13 H03
  rw [rounds_succ]
  go_wp2
  refine wp_loop_rounds 5 ?_
  obtain ⟨s, t, h0, h1, h2, h3, h4, h5, h6, h7, h8, h9, h10, h11, h12, h13⟩ := pkm H10.out
  rw [rounds_succ]
  go_wp2
  go_quiet (fail)
  go_wp2
  clear h0 h1 h2 h3 h4 h5 h6 h7 h8 h9 h10 h11 h12 h13 H10
  obtain ⟨u, s, t, h0, h1, h2, h3, h4, h5, h6, h7, h8, h9, h10, h11, h12, h13⟩ := pko H11.out
  rw [rounds_succ]
  go_wp2
  go_quiet (fail)
  go_wp2
  clear h0 h1 h2 h3 h4 h5 h6 h7 h8 h9 h10 h11 h12 h13 H11
  obtain ⟨u, s, t, h0, h1, h2, h3, h4, h5, h6, h7, h8, h9, h10, h11, h12, h13⟩ := pko H12.out
  rw [rounds_succ]
  go_wp2
  go_quiet (fail)
  go_wp2
  clear h0 h1 h2 h3 h4 h5 h6 h7 h8 h9 h10 h11 h12 h13 H12
  obtain ⟨u, s, t, h0, h1, h2, h3, h4, h5, h6, h7, h8, h9, h10, h11, h12, h13⟩ := pko H13.out
  rw [rounds_succ]
  go_wp2
  go_quiet (fail)
  go_wp2
  rw [rounds_succ]
  go_wp2
  clear h0 h1 h2 h3 h4 h5 h6 h7 h8 h9 h10 h11 h12 h13 H13
  rw [rounds_succ]
  go_wp2
  refine wp_loop_rounds 5 ?_
  obtain ⟨s, t, h0, h1, h2, h3, h4, h5, h6, h7, h8, h9, h10, h11, h12, h13⟩ := pkm H20.out
  rw [rounds_succ]
  go_wp2
  go_quiet (fail)
  go_wp2
  clear h0 h1 h2 h3 h4 h5 h6 h7 h8 h9 h10 h11 h12 h13 H20
  obtain ⟨u, s, t, h0, h1, h2, h3, h4, h5, h6, h7, h8, h9, h10, h11, h12, h13⟩ := pko H21.out
  rw [rounds_succ]
  go_wp2
  go_quiet (fail)
  go_wp2
  clear h0 h1 h2 h3 h4 h5 h6 h7 h8 h9 h10 h11 h12 h13 H21
  obtain ⟨u, s, t, h0, h1, h2, h3, h4, h5, h6, h7, h8, h9, h10, h11, h12, h13⟩ := pko H22.out
  rw [rounds_succ]
  go_wp2
  go_quiet (fail)
  go_wp2
  clear h0 h1 h2 h3 h4 h5 h6 h7 h8 h9 h10 h11 h12 h13 H22
  obtain ⟨u, s, t, h0, h1, h2, h3, h4, h5, h6, h7, h8, h9, h10, h11, h12, h13⟩ := pko H23.out
  rw [rounds_succ]
  go_wp2
  go_quiet (fail)
  go_wp2
  rw [rounds_succ]
  go_wp2
  clear h0 h1 h2 h3 h4 h5 h6 h7 h8 h9 h10 h11 h12 h13 H23
  rw [rounds_succ]
  go_wp2
  refine wp_loop_rounds 5 ?_
  obtain ⟨s, t, h0, h1, h2, h3, h4, h5, h6, h7, h8, h9, h10, h11, h12, h13⟩ := pkm H30.out
  rw [rounds_succ]
  go_wp2
  go_quiet (fail)
  go_wp2
  clear h0 h1 h2 h3 h4 h5 h6 h7 h8 h9 h10 h11 h12 h13 H30
  obtain ⟨u, s, t, h0, h1, h2, h3, h4, h5, h6, h7, h8, h9, h10, h11, h12, h13⟩ := pko H31.out
  rw [rounds_succ]
  go_wp2
  go_quiet (fail)
  go_wp2
  clear h0 h1 h2 h3 h4 h5 h6 h7 h8 h9 h10 h11 h12 h13 H31
  obtain ⟨u, s, t, h0, h1, h2, h3, h4, h5, h6, h7, h8, h9, h10, h11, h12, h13⟩ := pko H32.out
  rw [rounds_succ]
  go_wp2
  go_quiet (fail)
  go_wp2
  clear h0 h1 h2 h3 h4 h5 h6 h7 h8 h9 h10 h11 h12 h13 H32
  obtain ⟨u, s, t, h0, h1, h2, h3, h4, h5, h6, h7, h8, h9, h10, h11, h12, h13⟩ := pko H33.out
  rw [rounds_succ]
  go_wp2
  go_quiet (fail)
  go_wp2
  rw [rounds_succ]
  go_wp2
  clear h0 h1 h2 h3 h4 h5 h6 h7 h8 h9 h10 h11 h12 h13 H33
  rw [rounds_succ]
  go_wp2_with fail
  refine (bk _ _).mono ?_
  rintro e w1 ⟨h', l', is, rfl, r, hb1⟩
  obtain ⟨rfl, rfl⟩ := key.out h' l' is r
  have z1 : w.heap.size < w1.heap.size := Nat.lt_of_lt_of_le (by simp <;> omega) hb1.size
  have k0 : w1.cell? ⟨w.heap.size, 0, none⟩ = some (.int .i64 0) := (hb1.cell (p := ⟨w.heap.size, 0, none⟩) (by simp <;> omega)).trans (by simp [go_sem])
  have f0 : w1.frozen? ⟨w.heap.size, 0, none⟩ = false := (hb1.frozen (p := ⟨w.heap.size, 0, none⟩) (by simp <;> omega)).trans (by simp [go_sem])
  have k1 : w1.cell? ⟨w.heap.size, 1, none⟩ = some (.int .u64 0) := (hb1.cell (p := ⟨w.heap.size, 1, none⟩) (by simp <;> omega)).trans (by simp [go_sem])
  have f1 : w1.frozen? ⟨w.heap.size, 1, none⟩ = false := (hb1.frozen (p := ⟨w.heap.size, 1, none⟩) (by simp <;> omega)).trans (by simp [go_sem])
  have B1 : Below w.heap.size w w1 := Below.trans (by repeat (first | (with_reducible exact Below.refl _ _) | (with_reducible refine below_alloc (Nat.le_refl _) ?_ _) | (with_reducible refine below_drewN ?_ _) | (with_reducible refine Below.drew ?_))) (hb1.mono (by simp <;> omega))
  clear hb1 r key bk
  go_wp2
  refine bodyPost_ret (v := .agg #[.int .i64 h, .int .u64 l]) (by simp [results, Try.results37, go_sem, k0, k1, z1]) rfl ⟨rfl, ?_⟩
  repeat (first | (with_reducible exact B1) | (with_reducible refine below_alloc (Nat.le_refl _) ?_ _) | (with_reducible refine Below.setCell ?_ (by simp) _))

end Go.Proofs.Ytmngbhkokglmjaa.Vr
