/- What lowest of the reference of layer 3 comes to: cut by what divides each of two numbers, one after the other. -/
import Derived.Test.YtmngbhkokglmjaaKchk
import Derived.Test.YtmngbhkokglmjaaRdiv
import Derived.Test.YtmngbhkokglmjaaRfit
namespace Go.Proofs.Ytmngbhkokglmjaa.Kc
open Go.RowKit Go.Proofs.Ytmngbhkokglmjaa.Vm Go.Proofs.Ytmngbhkokglmjaa.Vc Go.Proofs.Ytmngbhkokglmjaa.Pr Go.Proofs.Ytmngbhkokglmjaa.Qm

set_option maxHeartbeats 400000

theorem fitres_parts {n p q v1 e1 v2 e2 N D er : Int} (r1 : Res1 n v1 e1) (r2 : Res1 (p * q) v2 e2) (F : FitRes n (p * q) N D er) :
    (e1 ≠ 0 ∧ N = 0 ∧ D = 0 ∧ er = e1) ∨ (e1 = 0 ∧ e2 ≠ 0 ∧ N = 0 ∧ D = 0 ∧ er = e2) ∨ (e1 = 0 ∧ e2 = 0 ∧ N = v1 ∧ D = v2 ∧ er = 0) := by
  rcases r1 with ⟨rfl, rfl, f1⟩ | ⟨rfl, rfl, f1⟩
  · rcases r2 with ⟨rfl, rfl, f2⟩ | ⟨rfl, rfl, f2⟩
    · rcases F with ⟨rfl, rfl, rfl, _⟩ | ⟨_, _, _, no⟩
      · exact .inr (.inr ⟨rfl, rfl, rfl, rfl, rfl⟩)
      · exact absurd ⟨f1, f2⟩ no
    · rcases F with ⟨_, _, _, _, f⟩ | ⟨rfl, rfl, rfl, no⟩
      · exact absurd f f2
      · exact .inr (.inl ⟨rfl, by decide, rfl, rfl, rfl⟩)
  · rcases F with ⟨_, _, _, f, _⟩ | ⟨rfl, rfl, rfl, no⟩
    · exact absurd f f1
    · exact .inl ⟨by decide, rfl, rfl, rfl⟩

theorem gcd_small {t x g : Int} (hx : 0 < x) (fx : Fit1 x) (hg : g = (Int.gcd t x : Int)) : 0 < g ∧ g ≤ 9223372036854775807 := by
  have h1 := Int.le_of_dvd hx (Int.gcd_dvd_right t x)
  have h2 : 0 < Int.gcd t x := Int.gcd_pos_of_ne_zero_right t (by omega)
  unfold Fit1 at fx; omega

set_option maxRecDepth 100000 in
theorem klow_any (h l d c N D er : Int) (w : World) (bd : Bd h l) (fd : Fit1 d) (fc : Fit1 c) (d0 : 0 < d) (c0 : 0 < c) (R : Rat1 (num h l) (d * c) N D er) :
    Calls Try.prog 45 #[.agg #[.int .i64 h, .int .u64 l], .int .i64 d, .int .i64 c] w fun e w' =>
      e = .returned (.tuple #[.agg #[.int .i64 N, .int .i64 D], .int .i64 er]) ∧ Below w.heap.size w w' := by
  have ft := bd_fits bd
  obtain ⟨t, ht⟩ : ∃ t, num h l = t := ⟨_, rfl⟩
  rw [ht] at R ft
  have hdc : d * c ≠ 0 := Int.mul_ne_zero (by omega) (by omega)
  obtain ⟨h1, l1, n1, b1⟩ := words_ex (quot_fits ft d0)
  obtain ⟨r1, hr1⟩ : ∃ r, t % d = r := ⟨_, rfl⟩
  have r10 : 0 ≤ r1 ∧ r1 < d := by rw [← hr1]; exact ⟨Int.emod_nonneg _ (by omega), Int.emod_lt_of_pos _ d0⟩
  obtain ⟨g1, t1, d1, g10, hg1, et, ed, hc1, _⟩ := gcd_out (a := t) (b := d) (by omega)
  have g11 := gcd_small d0 fd hg1
  have ft1 : Fits t1 := by
    have : t / g1 = t1 := by rw [et]; exact Int.mul_ediv_cancel_left t1 (by omega)
    rw [← this]; exact quot_fits ft g10
  have d10 : 0 < d1 := by
    rcases Int.lt_trichotomy d1 0 with k | k | k
    · have := Int.mul_neg_of_pos_of_neg g10 k; omega
    · subst k; omega
    · exact k
  have fd1 : Fit1 d1 := by
    have : 1 * d1 ≤ g1 * d1 := Int.mul_le_mul_of_nonneg_right (by omega) (by omega)
    unfold Fit1 at *; omega
  obtain ⟨h2, l2, n2, b2⟩ := words_ex ft1
  obtain ⟨h3, l3, n3, b3⟩ := words_ex (quot_fits ft1 c0)
  obtain ⟨r2, hr2⟩ : ∃ r, t1 % c = r := ⟨_, rfl⟩
  have r20 : 0 ≤ r2 ∧ r2 < c := by rw [← hr2]; exact ⟨Int.emod_nonneg _ (by omega), Int.emod_lt_of_pos _ c0⟩
  obtain ⟨g2, t2, c1, g20, hg2, et1, ec, hc2, _⟩ := gcd_out (a := t1) (b := c) (by omega)
  have g21 := gcd_small c0 fc hg2
  have ft2 : Fits t2 := by
    have : t1 / g2 = t2 := by rw [et1]; exact Int.mul_ediv_cancel_left t2 (by omega)
    rw [← this]; exact quot_fits ft1 g20
  have c10 : 0 < c1 := by
    rcases Int.lt_trichotomy c1 0 with k | k | k
    · have := Int.mul_neg_of_pos_of_neg g20 k; omega
    · subst k; omega
    · exact k
  have fc1 : Fit1 c1 := by
    have : 1 * c1 ≤ g2 * c1 := Int.mul_le_mul_of_nonneg_right (by omega) (by omega)
    unfold Fit1 at *; omega
  obtain ⟨h4, l4, n4, b4⟩ := words_ex ft2
  have L : Low t2 (d1 * c1) := ⟨Int.mul_pos d10 c10, cop_mul' (cop_left hc1 ⟨g2, by rw [et1, Int.mul_comm]⟩) hc2⟩
  have E : t2 * (d * c) = t * (d1 * c1) := by rw [et, ed, ec, et1]; ac_rfl
  have F := fitres_of hdc L E R
  obtain ⟨v1, e1, rv1⟩ := res1_ex t2
  obtain ⟨v2, e2, rv2⟩ := res1_ex (d1 * c1)
  have O := fitres_parts rv1 rv2 F
  have fg1 : Fit1 g1 := by unfold Fit1; omega
  have fg2 : Fit1 g2 := by unfold Fit1; omega
  have dv1 := fun w => Vr.rDiv_any h l d h1 l1 r1 0 w bd fd (.inr (.inr ⟨d0, rfl, b1, by rw [n1, ht, ← hr1, Int.mul_comm]; exact Int.mul_ediv_add_emod t d, r10.1, r10.2⟩))
  have cm1 := fun w => common_any d r1 g1 w (by omega) (by unfold Fit1 at fd; omega) (by omega) (by unfold Fit1 at fd; omega) (by rw [hg1, ← hr1, gcd_rem])
  have dv2 := fun w => Vr.rDiv_any h l g1 h2 l2 0 0 w bd fg1 (.inr (.inr ⟨g10, rfl, b2, by rw [n2, ht, et, Int.mul_comm, Int.add_zero], Int.le_refl _, g10⟩))
  have dv3 := fun w => Vr.rDiv_any h2 l2 c h3 l3 r2 0 w b2 fc (.inr (.inr ⟨c0, rfl, b3, by rw [n3, n2, ← hr2, Int.mul_comm]; exact Int.mul_ediv_add_emod t1 c, r20.1, r20.2⟩))
  have cm2 := fun w => common_any c r2 g2 w (by omega) (by unfold Fit1 at fc; omega) (by omega) (by unfold Fit1 at fc; omega) (by rw [hg2, ← hr2, gcd_rem])
  have dv4 := fun w => Vr.rDiv_any h2 l2 g2 h4 l4 0 0 w b2 fg2 (.inr (.inr ⟨g20, rfl, b4, by rw [n4, n2, et1, Int.mul_comm, Int.add_zero], Int.le_refl _, g20⟩))
  have cf := fun w => Vr.rFit_any h4 l4 v1 e1 w b4 (by rw [n4]; exact rv1)
  have cu := fun w => Wr.rmul_any d1 c1 w fd1 fc1 v2 e2 (by rcases rv2 with ⟨k1, k2, k3⟩ | ⟨k1, k2, k3⟩; exact .inl ⟨k3, k2, k1⟩; exact .inr ⟨k3, k2, k1⟩)
  have k1 : d.tdiv g1 = d1 := by rw [ed]; exact Int.mul_tdiv_cancel_left d1 (by omega)
  have k2 : c.tdiv g2 = c1 := by rw [ec]; exact Int.mul_tdiv_cancel_left c1 (by omega)
  have k3 : d / g1 = d1 := by rw [ed]; exact Int.mul_ediv_cancel_left d1 (by omega)
  have k4 : c / g2 = c1 := by rw [ec]; exact Int.mul_ediv_cancel_left c1 (by omega)
  have K := Lib.hid (And.intro k1 (And.intro k2 (And.intro k3 k4)))
  have z1 : (g1 == 0) = false := beq_eq_false_iff_ne.2 (by omega)
  have z2 : (g2 == 0) = false := beq_eq_false_iff_ne.2 (by omega)
  have s1 : 0 ≤ r1 ∧ r1 ≤ 9223372036854775807 := by unfold Fit1 at fd; omega
  have s2 : 0 ≤ r2 ∧ r2 ≤ 9223372036854775807 := by unfold Fit1 at fc; omega
  unfold Fit1 at fd fc fd1 fc1
  obtain ⟨s1a, s1b⟩ := s1
  obtain ⟨s2a, s2b⟩ := s2
  obtain ⟨fda, fdb⟩ := fd
  obtain ⟨fca, fcb⟩ := fc
  obtain ⟨g1a, g1b⟩ := g11
  obtain ⟨g2a, g2b⟩ := g21
  clear k1 k2 k3 k4 F L E rv1 rv2 R ht hr1 hr2 r10 r20 et et1 ed ec hc1 hc2 hg1 hg2 ft ft1 ft2 n1 n2 n3 n4 b1 b2 b3 b4 bd hdc fg1 fg2
  have ix0 : ∀ w, (Instr.index 88 (.agg #[.int .i64 d, .int .i64 c]) (.int .i64 0)).run Try.prog w = .ok (.int .i64 d) w := fun _ => by kernel_rfl
  have ix1 : ∀ w, (Instr.index 88 (.agg #[.int .i64 d, .int .i64 c]) (.int .i64 1)).run Try.prog w = .ok (.int .i64 c) w := fun _ => by kernel_rfl
  go_enter Try.func45, Try.ntmps45
  go_wp2
  refine wp_loop_rounds 3 ?_
  rw [rounds_succ]
  go_wp2_with fail
  refine (dv1 _).mono ?_
  rintro e w1 ⟨rfl, hb⟩
  have P1 := (((Two.new w (.int .i64 h) (.int .u64 l) 40).alloc (.cells #[.int .i64 0, .int .i64 0] 23)).alloc (.cells #[.int .i64 d, .int .i64 c] 88)).kept hb
  have P2 := ((Two.new (w.alloc (.cells #[.int .i64 h, .int .u64 l] 40)) (.int .i64 0) (.int .i64 0) 23).alloc (.cells #[.int .i64 d, .int .i64 c] 88)).kept hb
  have P3 := (Two.new ((w.alloc (.cells #[.int .i64 h, .int .u64 l] 40)).alloc (.cells #[.int .i64 0, .int .i64 0] 23)) (.int .i64 d) (.int .i64 c) 88).kept hb
  have B1 := bthen (balloc (balloc (balloc (Below.refl _ w) _) _) _) hb
  simp only [World.size_alloc] at P1 P2 P3
  clear hb dv1
  obtain ⟨zz, a0, a1, _, _⟩ := id P1
  go_wp2_with fail
  refine (cm1 _).mono ?_
  rintro e w' ⟨rfl, rfl⟩
  clear cm1
  go_wp2_with fail
  refine (dv2 _).mono ?_
  rintro e w2 ⟨rfl, hb⟩
  replace P1 := (P1.alloc _).kept hb
  replace P2 := (P2.alloc _).kept hb
  replace P3 := (P3.alloc _).kept hb
  replace B1 := bthen (balloc B1 _) hb
  clear hb dv2 zz a0 a1
  obtain ⟨k1, k2, k3, k4⟩ := K.out
  obtain ⟨zz, a0, a1, f0, f1⟩ := id P1
  obtain ⟨yy, b0, b1, i0, i1⟩ := id P3
  go_wp2
  replace P1 := ((P1.set0 (.int .i64 h2)).set1 (.int .u64 l2)).other (g := w.heap.size + 1 + 1) 0 (.int .i64 d1) (by omega)
  replace P2 := ((P2.other (g := w.heap.size) 0 (.int .i64 h2) (by omega)).other (g := w.heap.size) 1 (.int .u64 l2) (by omega)).other (g := w.heap.size + 1 + 1) 0 (.int .i64 d1) (by omega)
  replace P3 := ((P3.other (g := w.heap.size) 0 (.int .i64 h2) (by omega)).other (g := w.heap.size) 1 (.int .u64 l2) (by omega)).set0 (.int .i64 d1)
  replace B1 := bset (bset (bset B1 (Nat.le_refl _) 0 (.int .i64 h2)) (Nat.le_refl _) 1 (.int .u64 l2)) (g := w.heap.size + 1 + 1) (by omega) 0 (.int .i64 d1)
  generalize ((w2.setCell ⟨w.heap.size, 0, none⟩ (.int .i64 h2)).setCell ⟨w.heap.size, 1, none⟩ (.int .u64 l2)).setCell ⟨w.heap.size + 1 + 1, 0, none⟩ (.int .i64 d1) = V2 at *
  clear zz a0 a1 f0 f1 yy b0 b1 i0 i1 k1 k2 k3 k4
  rw [rounds_succ]
  obtain ⟨zz, a0, a1, _, _⟩ := id P1
  go_wp2_with fail
  refine (dv3 _).mono ?_
  rintro e w3 ⟨rfl, hb⟩
  replace P1 := P1.kept hb
  replace P2 := P2.kept hb
  replace P3 := P3.kept hb
  replace B1 := bthen B1 hb
  clear hb dv3 zz a0 a1
  obtain ⟨zz, a0, a1, _, _⟩ := id P1
  go_wp2_with fail
  refine (cm2 _).mono ?_
  rintro e w' ⟨rfl, rfl⟩
  clear cm2
  go_wp2_with fail
  refine (dv4 _).mono ?_
  rintro e w4 ⟨rfl, hb⟩
  replace P1 := (P1.alloc _).kept hb
  replace P2 := (P2.alloc _).kept hb
  replace P3 := (P3.alloc _).kept hb
  replace B1 := bthen (balloc B1 _) hb
  clear hb dv4 zz a0 a1
  obtain ⟨k1, k2, k3, k4⟩ := K.out
  obtain ⟨zz, a0, a1, f0, f1⟩ := id P1
  obtain ⟨yy, b0, b1, i0, i1⟩ := id P3
  go_wp2
  replace P1 := ((P1.set0 (.int .i64 h4)).set1 (.int .u64 l4)).other (g := w.heap.size + 1 + 1) 1 (.int .i64 c1) (by omega)
  replace P2 := ((P2.other (g := w.heap.size) 0 (.int .i64 h4) (by omega)).other (g := w.heap.size) 1 (.int .u64 l4) (by omega)).other (g := w.heap.size + 1 + 1) 1 (.int .i64 c1) (by omega)
  replace P3 := ((P3.other (g := w.heap.size) 0 (.int .i64 h4) (by omega)).other (g := w.heap.size) 1 (.int .u64 l4) (by omega)).set1 (.int .i64 c1)
  replace B1 := bset (bset (bset B1 (Nat.le_refl _) 0 (.int .i64 h4)) (Nat.le_refl _) 1 (.int .u64 l4)) (g := w.heap.size + 1 + 1) (by omega) 1 (.int .i64 c1)
  generalize ((w4.setCell ⟨w.heap.size, 0, none⟩ (.int .i64 h4)).setCell ⟨w.heap.size, 1, none⟩ (.int .u64 l4)).setCell ⟨w.heap.size + 1 + 1, 1, none⟩ (.int .i64 c1) = V4 at *
  clear zz a0 a1 f0 f1 yy b0 b1 i0 i1 k1 k2 k3 k4
  rw [rounds_succ]
  obtain ⟨zz, a0, a1, _, _⟩ := id P1
  go_wp2_with fail
  refine (cf _).mono ?_
  rintro e w5 ⟨rfl, hb⟩
  replace P2 := P2.kept hb
  replace P3 := P3.kept hb
  replace B1 := bthen B1 hb
  clear hb zz a0 a1 cf P1
  obtain ⟨xx, c00, c01, f0, f1⟩ := id P2
  obtain ⟨yy, b0, b1, _, _⟩ := id P3
  rcases O with ⟨o1, rfl, rfl, rfl⟩ | ⟨rfl, o2, rfl, rfl, rfl⟩ | ⟨rfl, rfl, rfl, rfl, rfl⟩
  · have q1 : (er != 0) = true := bne_iff_ne.2 o1
    clear o1
    go_wp2
    refine bodyPost_ret (v := .tuple #[.agg #[.int .i64 0, .int .i64 0], .int .i64 er]) (by simp [results, Try.results45, go_sem, c00, c01]) rfl ⟨rfl, ?_⟩
    exact bset (bset B1 (by omega) _ _) (by omega) _ _
  · have q1 : (er != 0) = true := bne_iff_ne.2 o2
    clear o2
    go_wp2_with fail
    refine (cu _).mono ?_
    rintro e w' ⟨rfl, rfl⟩
    go_wp2
    refine bodyPost_ret (v := .tuple #[.agg #[.int .i64 0, .int .i64 0], .int .i64 er]) (by simp [results, Try.results45, go_sem, c00, c01]) rfl ⟨rfl, ?_⟩
    exact bset (bset B1 (by omega) _ _) (by omega) _ _
  · go_wp2_with fail
    refine (cu _).mono ?_
    rintro e w' ⟨rfl, rfl⟩
    go_wp2
    refine bodyPost_ret (v := .tuple #[.agg #[.int .i64 N, .int .i64 D], .int .i64 0]) (by simp [results, Try.results45, go_sem, c00, c01]) rfl ⟨rfl, ?_⟩
    exact bset (bset B1 (by omega) _ _) (by omega) _ _

end Go.Proofs.Ytmngbhkokglmjaa.Kc
