/- ShareSum's walk. -/
import Derived.Test.YtapddciodoobfaaSlaw
namespace Go.Proofs.Ytapddciodoobfaa.Sl
set_option linter.unusedSimpArgs false
set_option linter.unusedVariables false
open Go.RowKit Go.Proofs.Ytapddciodoobfaa.Vm Go.Proofs.Ytapddciodoobfaa.Vc Go.Proofs.Ytapddciodoobfaa.Pr Go.Proofs.Ytapddciodoobfaa.Rk Go.Proofs.Ytapddciodoobfaa.Sm Go.Proofs.Ytapddciodoobfaa.Om Go.Proofs.Ytapddciodoobfaa.Os Go.Proofs.Ytapddciodoobfaa.Sr

set_option maxHeartbeats 1000000

set_option maxRecDepth 100000 in
theorem sum_walk (a : Int) (A : Option Addr) (n cap : Nat) (zs : List Int) (w : World) (wa : (Lit.int .i64 a).wf = true) (w0 : SliceOf .i64 w A n cap zs) :
    Calls Try.prog 4 #[.int .i64 a, .slice A n cap] w fun e w' => e = .returned (.bool true) ∧ Below w.heap.size w w' := by
  have fa : Fit1 a := bounds_i64 wa
  obtain ⟨hn, hcap, hmax, hwf, hr⟩ := w0
  have fz : ∀ z ∈ zs, Fit1 z := fun z hz => bounds_i64 (hwf z hz)
  have R0 : Rd w w.heap.size A zs := by
    rcases hr with h | ⟨b, off, h1, h2, h3⟩
    · exact .inl h
    · exact .inr ⟨b, off, h1, h2, fun i hi => h3 i (by omega)⟩
  unfold maxLen at hmax
  have hn9 : (n : Int) ≤ 9223372036854775807 := by omega
  clear hwf hr wa
  by_cases big : 200 < n
  · have d1 : decide ((200 : Int) < (n : Int)) = true := decide_eq_true (by omega)
    clear fz R0 hn fa
    go_enter Try.func4, Try.ntmps4
    go_wp2_with fail
    refine (slive_ok _).mono ?_
    rintro e w1 ⟨rfl, hb1⟩
    go_wp2
    go_ret
    exact ⟨rfl, hb1⟩
  · have d1 : decide ((200 : Int) < (n : Int)) = false := decide_eq_false (by omega)
    obtain ⟨v, er, R⟩ := allres_ex zs
    rcases all_err R with ⟨rfl, h1, hp, hs, fs, rfl⟩ | ⟨he, rfl⟩
    · have n0 : 0 < n := by
        rcases Nat.eq_zero_or_pos n with h | h
        · rw [h] at hn; rw [List.length_eq_zero_iff.1 hn] at hs; simp at hs
        · exact h
      have M : MayBe (wt zs) n := by rw [← hn]; exact may_list hp hs
      have te : tot (wt zs) n = zs.sum := by rw [← hn]; exact sm_list zs
      have c1 := fun w h => split_go A n cap zs a w hn n0 (by omega) fa fz h hp hs fs
      have c2 := fun w h => Sum_any A n cap zs zs.sum 0 w hn hn9 fz h (.inl ⟨rfl, rfl, fs⟩)
      have FO := fun o h => split_fit (o := o) fa M h
      obtain ⟨x, hx⟩ : ∃ x, x = wt zs := ⟨_, rfl⟩
      obtain ⟨t, ht⟩ : ∃ t, t = zs.sum := ⟨_, rfl⟩
      have hcell : ∃ b off, A = some ⟨b, off, none⟩ ∧ b < w.heap.size ∧ ∀ i, i < n → w.cell? ⟨b, off + i, none⟩ = some (.int .i64 (x i)) := by
        obtain ⟨b, off, h1, h2, h3⟩ := R0.resolve_left (by intro e; rw [e] at hn; simp at hn; omega)
        exact ⟨b, off, h1, h2, fun i hi => by rw [hx]; exact h3 i (by omega)⟩
      have fx : ∀ i, i < n → Fit1 (x i) := fun i hi => by rw [hx]; exact fz _ (getD_mem (by omega))
      rw [← hx] at M te c1 FO
      rw [← ht] at te hs fs c2
      have CM : Hid (∀ i W, i < n → Calls Try.prog 18 #[.int .i64 a, .int .i64 (x i), .int .i64 t] W fun e w' => e = .returned (.tuple #[.int .i64 (quo a x n i), .int .i64 (rem a x n i), .int .i64 0]) ∧ Below W.heap.size W w') :=
        Lib.hid (fun i W hi => Vl.muldiv_to a (x i) t (quo a x n i) (rem a x n i) 0 W fa (fx i hi) fs (.inr (.inr (.inr ⟨hs, rfl, quo_fit fa M hi, by unfold quo; rw [te], by unfold rem; rw [te]⟩))))
      obtain ⟨b, off, rfl, hb, hcell⟩ := hcell
      have HX := Lib.hid hcell
      have HM := Lib.hid M
      have HA := Lib.hid fa
      have HR := Lib.hid R0
      clear fz hn R R0 h1 hp hs fs M te fx hcell hx ht fa
      go_enter Try.func4, Try.ntmps4
      go_wp2_with fail
      refine (slive_ok _).mono ?_
      rintro e w1 ⟨rfl, hb1⟩
      go_wp2_with fail
      refine (c1 _ (rdk HR.out hb1)).mono ?_
      rintro e w2 ⟨g, o, rfl, ro, gl, ho, hb2⟩
      replace hb1 := bthen hb1 hb2
      have HO := Lib.hid ho
      clear hb2 ho gl
      go_wp2_with fail
      refine (c2 _ (rdk HR.out hb1)).mono ?_
      rintro e w3 ⟨rfl, hb2⟩
      replace hb1 := bthen hb1 hb2
      replace ro := ro.kept hb2
      have c3 := Sum_any (some ⟨g, 0, none⟩) n n (ls o n) a 0 w3 (ls_len o n) hn9 (ls_fit (FO o HO.out)) (row_rd ro) (.inl ⟨rfl, by rw [ls_sum, split_sum HM.out HO.out], by rw [ls_sum, split_sum HM.out HO.out]; exact HA.out⟩)
      clear hb2 FO
      go_wp2_with fail
      refine c3.mono ?_
      rintro e w4 ⟨rfl, hb2⟩
      replace hb1 := bthen hb1 hb2
      replace ro := ro.kept hb2
      clear hb2 c3 c1 c2
      go_wp2
      go_loopw [62] (fun Y wr => ∃ k : Nat, k ≤ n ∧ Y = .int .i64 k ∧ Below w.heap.size w wr ∧ Row wr g n o) (fun Y _ => n - (intOf Y).toNat)
      case atStart => exact ⟨0, by omega, rfl, hb1, ro⟩
      case round =>
        clear hb1 ro
        obtain ⟨k, hk, rfl, hb1, ro⟩ := hrel
        by_cases hlt : k < n
        · have hc := (hb1.cell (p := ⟨b, off + k, none⟩) hb).trans (HX.out k hlt)
          have cmk := fun W => CM.out k W hlt
          have OK : (o k = quo a x n k) ∨ (o k = quo a x n k + 1 ∧ rem a x n k ≠ 0 ∧ quo a x n k + 1 ≤ 9223372036854775807) := by
            obtain ⟨C, hC, e⟩ := HO.out
            rw [e k hlt]
            cases ck : C k
            · exact .inl (by simp [one])
            · have r0 := more_pos HM.out hC hlt ck
              exact .inr ⟨by simp [one], by omega, quo_up HA.out HM.out hlt r0⟩
          have qf := quo_fit HA.out HM.out hlt
          unfold Fit1 at qf
          obtain ⟨q0, q1⟩ := qf
          obtain ⟨xk, hxk⟩ : ∃ s, x k = s := ⟨_, rfl⟩
          obtain ⟨q, hq⟩ : ∃ s, quo a x n k = s := ⟨_, rfl⟩
          obtain ⟨r, hr⟩ : ∃ s, rem a x n k = s := ⟨_, rfl⟩
          rw [hxk] at hc
          rw [hxk, hq, hr] at cmk
          rw [hq, hr] at OK
          rw [hq] at q0 q1
          clear hxk hq hr
          have pp : (0 : Int) ≤ (k : Int) := by omega
          have bp : (k : Int) < (n : Int) := by omega
          go_wp2_with fail
          refine (cmk _).mono ?_
          rintro e w5 ⟨rfl, hb2⟩
          replace hb1 := bthen hb1 hb2
          replace ro := ro.kept hb2
          have oc := ro.c k hlt
          clear hb2 cmk hc
          rcases OK with h | ⟨h, r0, q2⟩
          · rw [h] at oc
            clear h
            go_wp2
            go_roundw
            case rel => exact ⟨k + 1, by omega, by go_num, hb1, ro⟩
            case measure => simp [intOf] <;> omega
          · rw [h] at oc
            have d2 : (r == 0) = false := beq_eq_false_iff_ne.2 r0
            have d3 : (q + 1 != q) = true := bne_iff_ne.2 (by omega)
            clear h r0
            go_wp2
            go_roundw
            case rel => exact ⟨k + 1, by omega, by go_num, hb1, ro⟩
            case measure => simp [intOf] <;> omega
        · obtain rfl : k = n := by omega
          go_wp2
          go_ret
          exact ⟨rfl, hb1⟩
    · obtain ⟨s, es, rs⟩ := res1_ex zs.sum
      have c1 := fun w h => split_no A n cap zs a 0 er w hn hn9 fz h R he
      have c2 := fun w h => Sum_any A n cap zs s es w hn hn9 fz h rs
      have d2 : (er != 0) = true := bne_iff_ne.2 he
      have HR := Lib.hid R0
      clear fz hn R R0 he rs fa
      go_enter Try.func4, Try.ntmps4
      go_wp2_with fail
      refine (slive_ok _).mono ?_
      rintro e w1 ⟨rfl, hb1⟩
      go_wp2_with fail
      refine (c1 _ (rdk HR.out hb1)).mono ?_
      rintro e w2 ⟨rfl, hb2⟩
      replace hb1 := bthen hb1 hb2
      clear hb2
      go_wp2_with fail
      refine (c2 _ (rdk HR.out hb1)).mono ?_
      rintro e w3 ⟨rfl, hb2⟩
      replace hb1 := bthen hb1 hb2
      clear hb2
      go_wp2
      go_ret
      exact ⟨rfl, hb1⟩

end Go.Proofs.Ytapddciodoobfaa.Sl
