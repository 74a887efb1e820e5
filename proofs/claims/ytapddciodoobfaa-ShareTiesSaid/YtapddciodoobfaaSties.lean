/- ShareTies' walk. -/
import Derived.Test.YtapddciodoobfaaSlaw
namespace Go.Proofs.Ytapddciodoobfaa.Sl
set_option linter.unusedSimpArgs false
set_option linter.unusedVariables false
open Go.RowKit Go.Proofs.Ytapddciodoobfaa.Vm Go.Proofs.Ytapddciodoobfaa.Vc Go.Proofs.Ytapddciodoobfaa.Pr Go.Proofs.Ytapddciodoobfaa.Rk Go.Proofs.Ytapddciodoobfaa.Sm Go.Proofs.Ytapddciodoobfaa.Om Go.Proofs.Ytapddciodoobfaa.Os Go.Proofs.Ytapddciodoobfaa.Sr

set_option maxHeartbeats 1000000

set_option maxRecDepth 100000 in
theorem ties_walk (a : Int) (A : Option Addr) (n cap : Nat) (zs : List Int) (w : World) (wa : (Lit.int .i64 a).wf = true) (w0 : SliceOf .i64 w A n cap zs) :
    Calls Try.prog 5 #[.int .i64 a, .slice A n cap] w fun e w' => e = .returned (.bool true) ∧ Below w.heap.size w w' := by
  have fa : Fit1 a := bounds_i64 wa
  obtain ⟨hn, hcap, hmax, hwf, hr⟩ := w0
  have fz : ∀ z ∈ zs, Fit1 z := fun z hz => bounds_i64 (hwf z hz)
  have R0 : Rd w w.heap.size A zs := by
    rcases hr with h | ⟨b, off, h1, h2, h3⟩
    · exact .inl h
    · exact .inr ⟨b, off, h1, h2, fun i hi => h3 i (by omega)⟩
  unfold maxLen at hmax
  have hn9 : (n : Int) ≤ 9223372036854775807 := by omega
  clear hwf hr wa
  by_cases big : 60 < n
  · have d1 : decide ((60 : Int) < (n : Int)) = true := decide_eq_true (by omega)
    clear fz R0 hn fa
    go_enter Try.func5, Try.ntmps5
    go_wp2_with fail
    refine (slive_ok _).mono ?_
    rintro e w1 ⟨rfl, hb1⟩
    go_wp2
    go_ret
    exact ⟨rfl, hb1⟩
  · have d1 : decide ((60 : Int) < (n : Int)) = false := decide_eq_false (by omega)
    obtain ⟨v, er, R⟩ := allres_ex zs
    rcases all_err R with ⟨rfl, h1, hp, hs, fs, rfl⟩ | ⟨he, rfl⟩
    · have n0 : 0 < n := by
        rcases Nat.eq_zero_or_pos n with h | h
        · rw [h] at hn; rw [List.length_eq_zero_iff.1 hn] at hs; simp at hs
        · exact h
      have M : MayBe (wt zs) n := by rw [← hn]; exact may_list hp hs
      have te : tot (wt zs) n = zs.sum := by rw [← hn]; exact sm_list zs
      have c1 := fun w h => split_go A n cap zs a w hn n0 (by omega) fa fz h hp hs fs
      have c2 := fun w h => Sum_any A n cap zs zs.sum 0 w hn hn9 fz h (.inl ⟨rfl, rfl, fs⟩)
      obtain ⟨x, hx⟩ : ∃ x, x = wt zs := ⟨_, rfl⟩
      obtain ⟨t, ht⟩ : ∃ t, t = zs.sum := ⟨_, rfl⟩
      have hcell : ∃ b off, A = some ⟨b, off, none⟩ ∧ b < w.heap.size ∧ ∀ i, i < n → w.cell? ⟨b, off + i, none⟩ = some (.int .i64 (x i)) := by
        obtain ⟨b, off, h1, h2, h3⟩ := R0.resolve_left (by intro e; rw [e] at hn; simp at hn; omega)
        exact ⟨b, off, h1, h2, fun i hi => by rw [hx]; exact h3 i (by omega)⟩
      have fx : ∀ i, i < n → Fit1 (x i) := fun i hi => by rw [hx]; exact fz _ (getD_mem (by omega))
      rw [← hx] at M te c1
      rw [← ht] at te hs fs c2
      have CM : Hid (∀ i W, i < n → Calls Try.prog 18 #[.int .i64 a, .int .i64 (x i), .int .i64 t] W fun e w' => e = .returned (.tuple #[.int .i64 (quo a x n i), .int .i64 (rem a x n i), .int .i64 0]) ∧ Below W.heap.size W w') :=
        Lib.hid (fun i W hi => Vl.muldiv_to a (x i) t (quo a x n i) (rem a x n i) 0 W fa (fx i hi) fs (.inr (.inr (.inr ⟨hs, rfl, quo_fit fa M hi, by unfold quo; rw [te], by unfold rem; rw [te]⟩))))
      obtain ⟨b, off, rfl, hb, hcell⟩ := hcell
      have HX := Lib.hid hcell
      have HR := Lib.hid R0
      clear fz hn R R0 h1 hp hs fs M te fx hcell hx ht fa
      go_enter Try.func5, Try.ntmps5
      go_wp2_with fail
      refine (slive_ok _).mono ?_
      rintro e w1 ⟨rfl, hb1⟩
      go_wp2_with fail
      refine (c1 _ (rdk HR.out hb1)).mono ?_
      rintro e w2 ⟨g, o, rfl, ro, gl, ho, hb2⟩
      replace hb1 := bthen hb1 hb2
      have HO := Lib.hid ho
      clear hb2 ho gl
      go_wp2_with fail
      refine (c2 _ (rdk HR.out hb1)).mono ?_
      rintro e w3 ⟨rfl, hb2⟩
      replace hb1 := bthen hb1 hb2
      replace ro := ro.kept hb2
      clear hb2 c1 c2
      go_wp2
      go_loopw [49] (fun Y wr => ∃ k : Nat, k ≤ n ∧ Y = .int .i64 k ∧ Below w.heap.size w wr ∧ Row wr g n o) (fun Y _ => n - (intOf Y).toNat)
      case atStart => exact ⟨0, by omega, rfl, hb1, ro⟩
      case round =>
        clear hb1 ro
        obtain ⟨i, hi, rfl, hb1, ro⟩ := hrel
        by_cases hlt : i < n
        · have hc := (hb1.cell (p := ⟨b, off + i, none⟩) hb).trans (HX.out i hlt)
          have cmk := fun W => CM.out i W hlt
          obtain ⟨xi, hxi⟩ : ∃ s, x i = s := ⟨_, rfl⟩
          obtain ⟨q, hq⟩ : ∃ s, quo a x n i = s := ⟨_, rfl⟩
          obtain ⟨r, hr⟩ : ∃ s, rem a x n i = s := ⟨_, rfl⟩
          have HI := Lib.hid (And.intro hq hr)
          rw [hxi] at hc
          rw [hxi, hq, hr] at cmk
          clear hxi hq hr
          have pi : (0 : Int) ≤ (i : Int) := by omega
          have bi : (i : Int) < (n : Int) := by omega
          go_wp2_with fail
          refine (cmk _).mono ?_
          rintro e w5 ⟨rfl, hb2⟩
          replace hb1 := bthen hb1 hb2
          replace ro := ro.kept hb2
          clear hb2 cmk hc
          go_wp2
          go_loopw [65] (fun Y wr => ∃ k : Nat, k ≤ n ∧ Y = .int .i64 k ∧ Below w.heap.size w wr ∧ Row wr g n o) (fun Y _ => n - (intOf Y).toNat)
          case atStart => exact ⟨0, by omega, rfl, hb1, ro⟩
          case round =>
            clear hb1 ro
            obtain ⟨j, hj, rfl, hb1, ro⟩ := hrel
            by_cases jlt : j < n
            · have hc := (hb1.cell (p := ⟨b, off + j, none⟩) hb).trans (HX.out j jlt)
              have cmk := fun W => CM.out j W jlt
              have OK : (o i = q) ∨ (o i = q + 1 ∧ o j = quo a x n j + 1) ∨ (o i = q + 1 ∧ o j = quo a x n j ∧ (rem a x n j < r ∨ (r = rem a x n j ∧ i < j))) := by
                obtain ⟨C, hC, e⟩ := HO.out
                rw [← HI.out.1, ← HI.out.2, e i hlt, e j jlt]
                cases ci : C i
                · exact .inl (by simp [one])
                · cases cj : C j
                  · exact .inr (.inr ⟨by simp [one], by simp [one], hC.2 i j hlt jlt ci cj⟩)
                  · exact .inr (.inl ⟨by simp [one], by simp [one]⟩)
              obtain ⟨xj, hxj⟩ : ∃ s, x j = s := ⟨_, rfl⟩
              obtain ⟨s, hq⟩ : ∃ s, quo a x n j = s := ⟨_, rfl⟩
              obtain ⟨u, hr⟩ : ∃ s, rem a x n j = s := ⟨_, rfl⟩
              rw [hxj] at hc
              rw [hxj, hq, hr] at cmk
              rw [hq, hr] at OK
              clear hxj hq hr
              have pj : (0 : Int) ≤ (j : Int) := by omega
              have bj : (j : Int) < (n : Int) := by omega
              go_wp2_with fail
              refine (cmk _).mono ?_
              rintro e w6 ⟨rfl, hb2⟩
              replace hb1 := bthen hb1 hb2
              replace ro := ro.kept hb2
              have oi := ro.c i hlt
              have oj := ro.c j jlt
              clear hb2 cmk hc
              rcases OK with h | ⟨h, h'⟩ | ⟨h, h', h2 | ⟨h2, h3⟩⟩
              · rw [h] at oi
                have d2 : decide (q < q) = false := decide_eq_false (by omega)
                clear h
                go_wp2
                go_roundw
                case rel => exact ⟨j + 1, by omega, by go_num, hb1, ro⟩
                case measure => simp [intOf] <;> omega
              · rw [h] at oi
                rw [h'] at oj
                have d2 : decide (q < q + 1) = true := decide_eq_true (by omega)
                have d3 : (s + 1 == s) = false := beq_eq_false_iff_ne.2 (by omega)
                clear h h'
                go_wp2
                go_roundw
                case rel => exact ⟨j + 1, by omega, by go_num, hb1, ro⟩
                case measure => simp [intOf] <;> omega
              · rw [h] at oi
                rw [h'] at oj
                have d2 : decide (q < q + 1) = true := decide_eq_true (by omega)
                have d3 : decide (r < u) = false := decide_eq_false (by omega)
                have d4 : (r == u) = false := beq_eq_false_iff_ne.2 (by omega)
                clear h h' h2
                go_wp2
                go_roundw
                case rel => exact ⟨j + 1, by omega, by go_num, hb1, ro⟩
                case measure => simp [intOf] <;> omega
              · rw [h] at oi
                rw [h'] at oj
                have d2 : decide (q < q + 1) = true := decide_eq_true (by omega)
                have d3 : decide (r < u) = false := decide_eq_false (by omega)
                have d5 : decide ((j : Int) < (i : Int)) = false := decide_eq_false (by omega)
                have d6 : decide (j < i) = false := decide_eq_false (by omega)
                subst h2
                clear h h' h3
                go_wp2
                go_roundw
                case rel => exact ⟨j + 1, by omega, by go_num, hb1, ro⟩
                case measure => simp [intOf] <;> omega
            · obtain rfl : j = n := by omega
              go_wp2
              go_roundw
              case rel => exact ⟨i + 1, by omega, by go_num, hb1, ro⟩
              case measure => simp [intOf] <;> omega
        · obtain rfl : i = n := by omega
          go_wp2
          go_ret
          exact ⟨rfl, hb1⟩
    · obtain ⟨s, es, rs⟩ := res1_ex zs.sum
      have c1 := fun w h => split_no A n cap zs a 0 er w hn hn9 fz h R he
      have c2 := fun w h => Sum_any A n cap zs s es w hn hn9 fz h rs
      have d2 : (er != 0) = true := bne_iff_ne.2 he
      have HR := Lib.hid R0
      clear fz hn R R0 he rs fa
      go_enter Try.func5, Try.ntmps5
      go_wp2_with fail
      refine (slive_ok _).mono ?_
      rintro e w1 ⟨rfl, hb1⟩
      go_wp2_with fail
      refine (c1 _ (rdk HR.out hb1)).mono ?_
      rintro e w2 ⟨rfl, hb2⟩
      replace hb1 := bthen hb1 hb2
      clear hb2
      go_wp2_with fail
      refine (c2 _ (rdk HR.out hb1)).mono ?_
      rintro e w3 ⟨rfl, hb2⟩
      replace hb1 := bthen hb1 hb2
      clear hb2
      go_wp2
      go_ret
      exact ⟨rfl, hb1⟩

end Go.Proofs.Ytapddciodoobfaa.Sl
