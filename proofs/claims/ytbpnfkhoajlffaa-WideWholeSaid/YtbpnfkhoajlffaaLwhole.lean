/- WideWhole's walk. -/
import Derived.Test.YtbpnfkhoajlffaaLlive
import Derived.Test.YtbpnfkhoajlffaaVmath6
namespace Go.Proofs.Ytbpnfkhoajlffaa.Vl
open Go.RowKit Go.Proofs.Ytbpnfkhoajlffaa.Vm Go.Proofs.Ytbpnfkhoajlffaa.Vc

set_option maxHeartbeats 400000

theorem whole_walk (a b c d : Int) (w : World) (w1 : (Lit.int .i64 a).wf = true) (w2 : (Lit.int .i64 b).wf = true) (w3 : (Lit.int .i64 c).wf = true) (w4 : (Lit.int .i64 d).wf = true) :
    Calls Try.prog 7 #[.int .i64 a, .int .i64 b, .int .i64 c, .int .i64 d] w fun e w' => e = .returned (.bool true) ∧ Below w.heap.size w w' := by
  have fa : Fit1 a := bounds_i64 w1
  have fb : Fit1 b := bounds_i64 w2
  have fc : Fit1 c := bounds_i64 w3
  have fd : Fit1 d := bounds_i64 w4
  clear w1 w2 w3 w4
  have pf := prod_fits fa fb
  obtain ⟨hx, lx, nx, bx⟩ := words_ex (x := a * b) (by unfold Fits; omega)
  obtain ⟨hy, hhy⟩ : ∃ s, d / 9223372036854775808 = s := ⟨_, rfl⟩
  obtain ⟨ly, hly⟩ : ∃ s, d % 18446744073709551616 = s := ⟨_, rfl⟩
  have od := of_num fd.1 fd.2
  rw [hhy, hly] at od
  obtain ⟨ny, by_⟩ := od
  have fw : Fits (a * b + d) := by unfold Fits; unfold Fit1 at fd; omega
  obtain ⟨hw, lw, nw, bw⟩ := words_ex fw
  have rw_ : Res (num hx lx + num hy ly) hw lw 0 := Or.inl ⟨rfl, by rw [nx, ny]; exact nw, bw⟩
  have cm := fun w => Mul_any a b hx lx w fa fb bx nx
  have co := fun w => Of_to d hy ly w (Lib.hid hhy) (Lib.hid hly)
  have ca := fun w => Add_any hx lx hy ly hw lw 0 w bx by_ rw_
  clear pf nx bx hhy hly ny by_ rw_ fd fa fb
  by_cases c0 : c ≤ 0
  · have cd : ∀ w, Calls Try.prog 20 #[.agg #[.int .i64 hw, .int .u64 lw], .int .i64 c] w fun e w' => e = .returned (.tuple #[.agg #[.int .i64 0, .int .u64 0], .int .i64 0, .int .i64 (if c = 0 then 3 else 1)]) ∧ Below w.heap.size w w' := by
      intro w
      refine Div_any hw lw c 0 0 0 _ w bw fc ?_
      by_cases h : c = 0
      · exact .inl ⟨h, rfl, rfl, rfl, by rw [if_pos h]⟩
      · exact .inr (.inl ⟨by omega, rfl, rfl, rfl, by rw [if_neg h]⟩)
    clear fw nw bw fc
    by_cases h : c = 0
    · subst h
      have cd' : ∀ w, Calls Try.prog 20 #[.agg #[.int .i64 hw, .int .u64 lw], .int .i64 0] w fun e w' => e = .returned (.tuple #[.agg #[.int .i64 0, .int .u64 0], .int .i64 0, .int .i64 3]) ∧ Below w.heap.size w w' := cd
      clear cd c0
      go_enter Try.func7, Try.ntmps7
      go_wp2_with fail
      refine (live_ok _).mono ?_
      rintro e w1 ⟨rfl, hb1⟩
      go_wp2_with fail
      refine (cm _).mono ?_
      rintro e w2 ⟨rfl, hb2⟩
      go_wp2_with fail
      refine (co _).mono ?_
      rintro e w3 ⟨rfl, hb3⟩
      go_wp2_with fail
      refine (ca _).mono ?_
      rintro e w4 ⟨rfl, hb4⟩
      have B4 := bthen (bthen (bthen hb1 hb2) hb3) hb4
      go_wp2_with fail
      refine (cd' _).mono ?_
      rintro e w5 ⟨rfl, hb5⟩
      go_wp2
      go_ret
      exact ⟨rfl, balloc (bthen (balloc B4 _) hb5) _⟩
    · have d1 : (c == 0) = false := beq_eq_false_iff_ne.2 h
      have d2 : decide (c < 0) = true := decide_eq_true (by omega)
      have cd' : ∀ w, Calls Try.prog 20 #[.agg #[.int .i64 hw, .int .u64 lw], .int .i64 c] w fun e w' => e = .returned (.tuple #[.agg #[.int .i64 0, .int .u64 0], .int .i64 0, .int .i64 1]) ∧ Below w.heap.size w w' := by
        intro w; have := cd w; rw [if_neg h] at this; exact this
      clear cd c0 h
      go_enter Try.func7, Try.ntmps7
      go_wp2_with fail
      refine (live_ok _).mono ?_
      rintro e w1 ⟨rfl, hb1⟩
      go_wp2_with fail
      refine (cm _).mono ?_
      rintro e w2 ⟨rfl, hb2⟩
      go_wp2_with fail
      refine (co _).mono ?_
      rintro e w3 ⟨rfl, hb3⟩
      go_wp2_with fail
      refine (ca _).mono ?_
      rintro e w4 ⟨rfl, hb4⟩
      have B4 := bthen (bthen (bthen hb1 hb2) hb3) hb4
      go_wp2_with fail
      refine (cd' _).mono ?_
      rintro e w5 ⟨rfl, hb5⟩
      go_wp2
      go_ret
      exact ⟨rfl, balloc (bthen (balloc B4 _) hb5) _⟩
  · have hc : 0 < c := by omega
    obtain ⟨hq, lq, nq, bq⟩ := words_ex (quot_fits fw hc)
    obtain ⟨r, hr⟩ : ∃ s, (a * b + d) % c = s := ⟨_, rfl⟩
    have r0 : 0 ≤ r := by rw [← hr]; exact Int.emod_nonneg _ (by omega)
    have r1 : r < c := by rw [← hr]; exact Int.emod_lt_of_pos _ hc
    have ex : num hq lq * c + r = a * b + d := by rw [nq, ← hr, Int.mul_comm]; exact Int.mul_ediv_add_emod _ _
    have cd := fun w => Div_any hw lw c hq lq r 0 w bw fc (.inr (.inr ⟨hc, rfl, bq, by rw [ex, nw], r0, r1⟩))
    have d1 : decide (r < 0) = false := decide_eq_false (by omega)
    have d2 : decide (c ≤ r) = false := decide_eq_false (by omega)
    by_cases f : Fit1 (num hq lq)
    · have cf := fun w => Fit_any hq lq (num hq lq) 0 w bq (Or.inl ⟨rfl, rfl, f⟩)
      obtain ⟨v, hv⟩ : ∃ s, num hq lq = s := ⟨_, rfl⟩
      rw [hv] at cf f ex
      have pf2 := prod_fits f fc
      obtain ⟨h2, l2, n2, b2⟩ := words_ex (x := v * c) (by unfold Fits; omega)
      have cm2 := fun w => Mul_any v c h2 l2 w f fc b2 n2
      obtain ⟨hz, hhz⟩ : ∃ s, r / 9223372036854775808 = s := ⟨_, rfl⟩
      obtain ⟨lz, hlz⟩ : ∃ s, r % 18446744073709551616 = s := ⟨_, rfl⟩
      have oz := of_num (a := r) (by omega) (by unfold Fit1 at fc; omega)
      rw [hhz, hlz] at oz
      have co2 := fun w => Of_to r hz lz w (Lib.hid hhz) (Lib.hid hlz)
      have ca2 := fun w => Add_any h2 l2 hz lz hw lw 0 w b2 oz.2 (Or.inl ⟨rfl, by rw [n2, oz.1, ex, nw], bw⟩)
      clear nq hr ex hv pf2 n2 b2 hhz hlz oz f fc fw nw bw bq r0 r1 hc c0
      go_enter Try.func7, Try.ntmps7
      go_wp2_with fail
      refine (live_ok _).mono ?_
      rintro e w1 ⟨rfl, hb1⟩
      go_wp2_with fail
      refine (cm _).mono ?_
      rintro e w2 ⟨rfl, hb2⟩
      go_wp2_with fail
      refine (co _).mono ?_
      rintro e w3 ⟨rfl, hb3⟩
      go_wp2_with fail
      refine (ca _).mono ?_
      rintro e w4 ⟨rfl, hb4⟩
      have B4 := bthen (bthen (bthen hb1 hb2) hb3) hb4
      have P9 := Pair.new w4 (.int .i64 hw) (.int .u64 lw) 24
      go_wp2_with fail
      refine (cd _).mono ?_
      rintro e w5 ⟨rfl, hb5⟩
      replace P9 := P9.kept hb5
      have B5 := bthen (balloc B4 _) hb5
      go_wp2_with fail
      refine (cf _).mono ?_
      rintro e w6 ⟨rfl, hb6⟩
      replace P9 := (P9.alloc _).kept hb6
      have B6 := bthen (balloc B5 _) hb6
      go_wp2_with fail
      refine (cm2 _).mono ?_
      rintro e w7 ⟨rfl, hb7⟩
      replace P9 := P9.kept hb7
      go_wp2_with fail
      refine (co2 _).mono ?_
      rintro e w8 ⟨rfl, hb8⟩
      replace P9 := P9.kept hb8
      go_wp2_with fail
      refine (ca2 _).mono ?_
      rintro e w9 ⟨rfl, hb9⟩
      replace P9 := P9.kept hb9
      have B9 := bthen (bthen (bthen B6 hb7) hb8) hb9
      obtain ⟨z9, c90, c91⟩ := P9
      clear hb1 hb2 hb3 hb4 hb5 hb6 hb7 hb8 hb9
      go_wp2
      go_ret
      exact ⟨by simp, balloc B9 _⟩
    · have cf := fun w => Fit_any hq lq 0 2 w bq (Or.inr ⟨rfl, rfl, f⟩)
      clear nq hr ex f fc fw nw bw bq r0 r1 hc c0
      go_enter Try.func7, Try.ntmps7
      go_wp2_with fail
      refine (live_ok _).mono ?_
      rintro e w1 ⟨rfl, hb1⟩
      go_wp2_with fail
      refine (cm _).mono ?_
      rintro e w2 ⟨rfl, hb2⟩
      go_wp2_with fail
      refine (co _).mono ?_
      rintro e w3 ⟨rfl, hb3⟩
      go_wp2_with fail
      refine (ca _).mono ?_
      rintro e w4 ⟨rfl, hb4⟩
      have B4 := bthen (bthen (bthen hb1 hb2) hb3) hb4
      go_wp2_with fail
      refine (cd _).mono ?_
      rintro e w5 ⟨rfl, hb5⟩
      have B5 := bthen (balloc B4 _) hb5
      go_wp2_with fail
      refine (cf _).mono ?_
      rintro e w6 ⟨rfl, hb6⟩
      go_wp2
      go_ret
      exact ⟨rfl, bthen (balloc B5 _) hb6⟩

end Go.Proofs.Ytbpnfkhoajlffaa.Vl
