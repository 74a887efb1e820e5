/- ShareMore's walk. -/
import Derived.Test.YtapddciodoobfaaSlaw
namespace Go.Proofs.Ytapddciodoobfaa.Sl
set_option linter.unusedSimpArgs false
set_option linter.unusedVariables false
open Go.RowKit Go.Proofs.Ytapddciodoobfaa.Vm Go.Proofs.Ytapddciodoobfaa.Vc Go.Proofs.Ytapddciodoobfaa.Pr Go.Proofs.Ytapddciodoobfaa.Rk Go.Proofs.Ytapddciodoobfaa.Sm Go.Proofs.Ytapddciodoobfaa.Om Go.Proofs.Ytapddciodoobfaa.Os Go.Proofs.Ytapddciodoobfaa.Sr

set_option maxHeartbeats 16000000

theorem quo_next {a : Int} {w : Nat → Int} {n i : Nat} (h : MayBe w n) (hi : i < n) : quo a w n i ≤ quo (a + 1) w n i ∧ quo (a + 1) w n i ≤ quo a w n i + 1 := by
  have w0 := h.1 i hi
  have w1 := Sr.w_le h hi
  have tp := h.2
  have q1 := quo_rem (a := a) (w := w) (n := n) i
  have q2 := quo_rem (a := a + 1) (w := w) (n := n) i
  have r1 := rem_bd (a := a) h i
  have r2 := rem_bd (a := a + 1) h i
  rw [Int.add_mul, Int.one_mul] at q2
  generalize quo a w n i = q at *
  generalize quo (a + 1) w n i = q' at *
  generalize rem a w n i = r at *
  generalize rem (a + 1) w n i = r' at *
  generalize tot w n = t at *
  generalize a * w i = z at *
  generalize w i = x at *
  constructor
  · by_cases c : q ≤ q'
    · exact c
    · have h1 : t * (q' + 1) ≤ t * q := Int.mul_le_mul_of_nonneg_left (by omega) (by omega)
      rw [Int.mul_add, Int.mul_one] at h1
      omega
  · by_cases c : q' ≤ q + 1
    · exact c
    · have h1 : t * (q + 1 + 1) ≤ t * q' := Int.mul_le_mul_of_nonneg_left (by omega) (by omega)
      rw [Int.mul_add, Int.mul_add, Int.mul_one] at h1
      omega
theorem split_zero {a : Int} {w : Nat → Int} {n i : Nat} {o : Nat → Int} (h : MayBe w n) (hi : i < n) (s : IsSplit a w n o) (z : w i = 0) : o i = 0 := by
  obtain ⟨C, hC, e⟩ := s
  have q0 : quo a w n i = 0 := by unfold quo; rw [z, Int.mul_zero, Int.zero_ediv]
  have r0 : rem a w n i = 0 := by unfold rem; rw [z, Int.mul_zero, Int.zero_emod]
  rw [e i hi, q0]
  cases ci : C i
  · simp [one]
  · have := more_pos h hC hi ci; omega
theorem split_near {a : Int} {w : Nat → Int} {n i : Nat} {o p : Nat → Int} (h : MayBe w n) (hi : i < n) (s : IsSplit a w n o) (s' : IsSplit (a + 1) w n p) : o i - 1 ≤ p i ∧ p i ≤ o i + 2 := by
  obtain ⟨C, hC, e⟩ := s
  obtain ⟨D, hD, e'⟩ := s'
  have q := quo_next (a := a) h hi
  have c := one_01 (C i)
  have d := one_01 (D i)
  rw [e i hi, e' i hi]; omega

set_option maxRecDepth 100000 in
theorem more_walk (a : Int) (A : Option Addr) (n cap : Nat) (zs : List Int) (w : World) (wa : (Lit.int .i64 a).wf = true) (w0 : SliceOf .i64 w A n cap zs) :
    Calls Try.prog 9 #[.int .i64 a, .slice A n cap] w fun e w' => e = .returned (.bool true) ∧ Below w.heap.size w w' := by
  have fa : Fit1 a := bounds_i64 wa
  obtain ⟨hn, hcap, hmax, hwf, hr⟩ := w0
  have fz : ∀ z ∈ zs, Fit1 z := fun z hz => bounds_i64 (hwf z hz)
  have R0 : Rd w w.heap.size A zs := by
    rcases hr with h | ⟨b, off, h1, h2, h3⟩
    · exact .inl h
    · exact .inr ⟨b, off, h1, h2, fun i hi => h3 i (by omega)⟩
  unfold maxLen at hmax
  have hn9 : (n : Int) ≤ 9223372036854775807 := by omega
  clear hwf hr wa
  by_cases big : 60 < n ∨ a = 9223372036854775807
  · rcases big with h | h
    · have d1 : decide ((60 : Int) < (n : Int)) = true := decide_eq_true (by omega)
      clear fz R0 hn fa
      go_enter Try.func9, Try.ntmps9
      go_wp2_with fail
      refine (slive_ok _).mono ?_
      rintro e w1 ⟨rfl, hb1⟩
      go_wp2
      go_ret
      exact ⟨rfl, hb1⟩
    · have d2 : (a == 9223372036854775807) = true := beq_iff_eq.2 h
      clear fz R0 hn fa h
      by_cases big : 60 < n
      · have d1 : decide ((60 : Int) < (n : Int)) = true := decide_eq_true (by omega)
        go_enter Try.func9, Try.ntmps9
        go_wp2_with fail
        refine (slive_ok _).mono ?_
        rintro e w1 ⟨rfl, hb1⟩
        go_wp2
        go_ret
        exact ⟨rfl, hb1⟩
      · have d1 : decide ((60 : Int) < (n : Int)) = false := decide_eq_false (by omega)
        go_enter Try.func9, Try.ntmps9
        go_wp2_with fail
        refine (slive_ok _).mono ?_
        rintro e w1 ⟨rfl, hb1⟩
        go_wp2
        go_ret
        exact ⟨rfl, hb1⟩
  · have b1 : n ≤ 60 := by omega
    have b2 : a ≠ 9223372036854775807 := fun h => big (.inr h)
    have d1 : decide ((60 : Int) < (n : Int)) = false := decide_eq_false (by omega)
    have d2 : (a == 9223372036854775807) = false := beq_eq_false_iff_ne.2 b2
    have fa' : Fit1 (a + 1) := by unfold Fit1 at *; omega
    have rp : IntKind.i64.wrap (a + 1) = a + 1 := IntWalk.i64_in _ (by unfold Fit1 at fa'; omega)
    clear big b2
    obtain ⟨v, er, R⟩ := allres_ex zs
    rcases all_err R with ⟨rfl, h1, hp, hs, fs, rfl⟩ | ⟨he, rfl⟩
    · have n0 : 0 < n := by
        rcases Nat.eq_zero_or_pos n with h | h
        · rw [h] at hn; rw [List.length_eq_zero_iff.1 hn] at hs; simp at hs
        · exact h
      have M : MayBe (wt zs) n := by rw [← hn]; exact may_list hp hs
      have c1 := fun w h => split_go A n cap zs a w hn n0 (by omega) fa fz h hp hs fs
      have c2 := fun w h => split_go A n cap zs (a + 1) w hn n0 (by omega) fa' fz h hp hs fs
      have F1 := fun o h => split_fit (o := o) fa M h
      have F2 := fun o h => split_fit (o := o) fa' M h
      obtain ⟨x, hx⟩ : ∃ x, x = wt zs := ⟨_, rfl⟩
      have hcell : ∃ b off, A = some ⟨b, off, none⟩ ∧ b < w.heap.size ∧ ∀ i, i < n → w.cell? ⟨b, off + i, none⟩ = some (.int .i64 (x i)) := by
        obtain ⟨b, off, h1, h2, h3⟩ := R0.resolve_left (by intro e; rw [e] at hn; simp at hn; omega)
        exact ⟨b, off, h1, h2, fun i hi => by rw [hx]; exact h3 i (by omega)⟩
      rw [← hx] at M c1 c2 F1 F2
      obtain ⟨b, off, rfl, hb, hcell⟩ := hcell
      have HX := Lib.hid hcell
      have HM := Lib.hid M
      have HA := Lib.hid (And.intro fa fa')
      have HR := Lib.hid R0
      have HF1 := Lib.hid F1
      have HF2 := Lib.hid F2
      clear fz hn R R0 h1 hp hs fs M hcell hx fa fa' F1 F2
      go_enter Try.func9, Try.ntmps9
      go_wp2_with fail
      refine (slive_ok _).mono ?_
      rintro e w1 ⟨rfl, hb1⟩
      go_wp2_with fail
      refine (c1 _ (rdk HR.out hb1)).mono ?_
      rintro e w2 ⟨g, o, rfl, ro, gl, ho, hb2⟩
      replace hb1 := bthen hb1 hb2
      have HO := Lib.hid ho
      clear hb2 ho gl
      go_wp2_with fail
      refine (c2 _ (rdk HR.out hb1)).mono ?_
      rintro e w3 ⟨h, p, rfl, rp', gl, ho, hb2⟩
      replace hb1 := bthen hb1 hb2
      replace ro := ro.kept hb2
      have HP := Lib.hid ho
      clear hb2 ho gl c1 c2
      go_wp2
      go_loopw [59] (fun Y wr => ∃ k : Nat, k ≤ n ∧ Y = .int .i64 k ∧ Below w.heap.size w wr ∧ Row wr g n o ∧ Row wr h n p) (fun Y _ => n - (intOf Y).toNat)
      case atStart => exact ⟨0, by omega, rfl, hb1, ro, rp'⟩
      case round =>
        clear hb1 ro rp'
        obtain ⟨k, hk, rfl, hb1, ro, ry⟩ := hrel
        by_cases hlt : k < n
        · have hc := (hb1.cell (p := ⟨b, off + k, none⟩) hb).trans (HX.out k hlt)
          have oc := ro.c k hlt
          have pc := ry.c k hlt
          have near := split_near HM.out hlt HO.out HP.out
          have Z : x k = 0 → o k = 0 ∧ p k = 0 := fun z => ⟨split_zero HM.out hlt HO.out z, split_zero HM.out hlt HP.out z⟩
          have f1 := HF1.out o HO.out k hlt
          have f2 := HF2.out p HP.out k hlt
          unfold Fit1 at f1 f2
          have pp : (0 : Int) ≤ (k : Int) := by omega
          have bp : (k : Int) < (n : Int) := by omega
          obtain ⟨z, hz⟩ : ∃ z, x k = z := ⟨_, rfl⟩
          obtain ⟨u, hu⟩ : ∃ u, o k = u := ⟨_, rfl⟩
          obtain ⟨s, hs⟩ : ∃ s, p k = s := ⟨_, rfl⟩
          rw [hz] at hc Z
          rw [hu] at oc near Z f1
          rw [hs] at pc near Z f2
          clear hz hu hs
          obtain ⟨f10, f11⟩ := f1
          obtain ⟨f20, f21⟩ := f2
          obtain ⟨n1, n2⟩ := near
          have O : (z = 0 ∧ u = 0 ∧ s = 0) ∨ (z ≠ 0 ∧ s + 1 = u) ∨ (z ≠ 0 ∧ s = u) ∨ (z ≠ 0 ∧ s = u + 1) ∨ (z ≠ 0 ∧ s = u + 2) := by
            by_cases c : z = 0
            · have := Z c; exact .inl ⟨c, this.1, this.2⟩
            · omega
          clear Z n1 n2
          rcases O with ⟨rfl, rfl, rfl⟩ | ⟨z0, rfl⟩ | ⟨z0, rfl⟩ | ⟨z0, rfl⟩ | ⟨z0, rfl⟩
          · go_wp2_with fail
            refine wp_region_quiet_lit (by kernel_rfl) (by kernel_rfl) ?_
            simp only [List.append]
            repeat (go_big_quiet_step (fail))
            refine wpQuiet_nil ?_
            intro _ hw'
            obtain ⟨nq, hw''⟩ := hw'
            subst hw''
            go_wp2
            go_roundw
            case rel => exact ⟨k + 1, by omega, by go_num, bdrewN hb1 _, ⟨ro.lt, ro.c, ro.fz⟩, ⟨ry.lt, ry.c, ry.fz⟩⟩
            case measure => simp [intOf] <;> omega
          · have d3 : (z == 0) = false := beq_eq_false_iff_ne.2 z0
            have d4 : decide (s < s + 1) = true := decide_eq_true (by omega)
            have d5 : decide (s + 1 < s) = false := decide_eq_false (by omega)
            have d6 : decide (1 < s + 1 - s) = false := decide_eq_false (by omega)
            have w6 : IntKind.i64.wrap (s + 1 - s) = s + 1 - s := IntWalk.i64_in _ (by omega)
            clear z0
            go_wp2_with fail
            refine wp_region_quiet_lit (by kernel_rfl) (by kernel_rfl) ?_
            simp only [List.append]
            repeat (go_big_quiet_step (fail))
            refine wpQuiet_nil ?_
            intro _ hw'
            obtain ⟨nq, hw''⟩ := hw'
            subst hw''
            go_wp2
            go_roundw
            case rel => exact ⟨k + 1, by omega, by go_num, bdrewN hb1 _, ⟨ro.lt, ro.c, ro.fz⟩, ⟨ry.lt, ry.c, ry.fz⟩⟩
            case measure => simp [intOf] <;> omega
          · have d3 : (z == 0) = false := beq_eq_false_iff_ne.2 z0
            have d4 : decide (s < s) = false := decide_eq_false (by omega)
            clear z0
            go_wp2_with fail
            refine wp_region_quiet_lit (by kernel_rfl) (by kernel_rfl) ?_
            simp only [List.append]
            repeat (go_big_quiet_step (fail))
            refine wpQuiet_nil ?_
            intro _ hw'
            obtain ⟨nq, hw''⟩ := hw'
            subst hw''
            go_wp2
            go_roundw
            case rel => exact ⟨k + 1, by omega, by go_num, bdrewN hb1 _, ⟨ro.lt, ro.c, ro.fz⟩, ⟨ry.lt, ry.c, ry.fz⟩⟩
            case measure => simp [intOf] <;> omega
          · have d3 : (z == 0) = false := beq_eq_false_iff_ne.2 z0
            have d4 : decide (u + 1 < u) = false := decide_eq_false (by omega)
            have d5 : decide (u < u + 1) = true := decide_eq_true (by omega)
            have d6 : decide (2 < u + 1 - u) = false := decide_eq_false (by omega)
            have w6 : IntKind.i64.wrap (u + 1 - u) = u + 1 - u := IntWalk.i64_in _ (by omega)
            clear z0
            go_wp2_with fail
            refine wp_region_quiet_lit (by kernel_rfl) (by kernel_rfl) ?_
            simp only [List.append]
            repeat (go_big_quiet_step (fail))
            refine wpQuiet_nil ?_
            intro _ hw'
            obtain ⟨nq, hw''⟩ := hw'
            subst hw''
            go_wp2
            go_roundw
            case rel => exact ⟨k + 1, by omega, by go_num, bdrewN hb1 _, ⟨ro.lt, ro.c, ro.fz⟩, ⟨ry.lt, ry.c, ry.fz⟩⟩
            case measure => simp [intOf] <;> omega
          · have d3 : (z == 0) = false := beq_eq_false_iff_ne.2 z0
            have d4 : decide (u + 2 < u) = false := decide_eq_false (by omega)
            have d5 : decide (u < u + 2) = true := decide_eq_true (by omega)
            have d6 : decide (2 < u + 2 - u) = false := decide_eq_false (by omega)
            have w6 : IntKind.i64.wrap (u + 2 - u) = u + 2 - u := IntWalk.i64_in _ (by omega)
            clear z0
            go_wp2_with fail
            refine wp_region_quiet_lit (by kernel_rfl) (by kernel_rfl) ?_
            simp only [List.append]
            repeat (go_big_quiet_step (fail))
            refine wpQuiet_nil ?_
            intro _ hw'
            obtain ⟨nq, hw''⟩ := hw'
            subst hw''
            go_wp2
            go_roundw
            case rel => exact ⟨k + 1, by omega, by go_num, bdrewN hb1 _, ⟨ro.lt, ro.c, ro.fz⟩, ⟨ry.lt, ry.c, ry.fz⟩⟩
            case measure => simp [intOf] <;> omega
        · obtain rfl : k = n := by omega
          have c3 := Sum_any (some ⟨h, 0, none⟩) k k (ls p k) (a + 1) 0 wr (ls_len p k) hn9 (ls_fit (HF2.out p HP.out)) (row_rd ry) (.inl ⟨rfl, by rw [ls_sum, split_sum HM.out HP.out], by rw [ls_sum, split_sum HM.out HP.out]; exact HA.out.2⟩)
          go_wp2_with fail
          refine c3.mono ?_
          rintro e w4 ⟨rfl, hb2⟩
          replace hb1 := bthen hb1 hb2
          clear hb2 c3
          go_wp2
          go_ret
          exact ⟨by simp, hb1⟩
    · have c1 := fun w h => split_no A n cap zs a 0 er w hn hn9 fz h R he
      have c2 := fun w h => split_no A n cap zs (a + 1) 0 er w hn hn9 fz h R he
      have d3 : (er != 0) = true := bne_iff_ne.2 he
      have HR := Lib.hid R0
      clear fz hn R R0 he fa fa'
      go_enter Try.func9, Try.ntmps9
      go_wp2_with fail
      refine (slive_ok _).mono ?_
      rintro e w1 ⟨rfl, hb1⟩
      go_wp2_with fail
      refine (c1 _ (rdk HR.out hb1)).mono ?_
      rintro e w2 ⟨rfl, hb2⟩
      replace hb1 := bthen hb1 hb2
      clear hb2
      go_wp2_with fail
      refine (c2 _ (rdk HR.out hb1)).mono ?_
      rintro e w3 ⟨rfl, hb2⟩
      replace hb1 := bthen hb1 hb2
      clear hb2
      go_wp2
      go_ret
      exact ⟨rfl, hb1⟩

end Go.Proofs.Ytapddciodoobfaa.Sl
