/- ShareEven's walk. -/
import Derived.Test.YtapddciodoobfaaSlaw
namespace Go.Proofs.Ytapddciodoobfaa.Sl
set_option linter.unusedSimpArgs false
set_option linter.unusedVariables false
open Go.RowKit Go.Proofs.Ytapddciodoobfaa.Vm Go.Proofs.Ytapddciodoobfaa.Vc Go.Proofs.Ytapddciodoobfaa.Pr Go.Proofs.Ytapddciodoobfaa.Rk Go.Proofs.Ytapddciodoobfaa.Sm Go.Proofs.Ytapddciodoobfaa.Om Go.Proofs.Ytapddciodoobfaa.Os Go.Proofs.Ytapddciodoobfaa.Sr

set_option maxHeartbeats 2000000

/-- a new row of noughts, its length of another kind -/
theorem make_row_u8 (n : Nat) (hn : n ≤ 255) :
    ∃ cs : Array Value, (∀ w, (Instr.makeSlice 22 (.int .u8 (n : Int)) (.int .u8 (n : Int))).run Try.prog w = .ok (.slice (some ⟨w.heap.size, 0, none⟩) n n) (w.alloc (.cells cs 2))) ∧ ∀ w : World, Row (w.alloc (.cells cs 2)) w.heap.size n (fun _ => 0) := by
  obtain ⟨i, hi, hz0, hz1, hz2⟩ := info_parts infoL
  have e1 : (n : Int).toNat = n := by omega
  refine ⟨madeCells #[.int .i64 0] n, fun w => ?_, fun w => ⟨by simp, fun i hi => ?_, fun i hi => by simp [go_sem]⟩⟩
  · have h := run_make (P := Try.prog) (w := w) 22 2 i (.int .i64 0) underL hi hz0 .u8 .u8 n n (by omega) (by omega) (by rw [hz2]; omega) (by omega)
    rw [e1, hz1, Nat.mul_one] at h
    exact h
  · have : (madeCells #[Value.int .i64 0] n)[i]? = some (.int .i64 0) := by
      rw [← Array.getElem?_toList, toList_madeCells_one]
      simp [hi]
    simp [go_sem, this]

theorem sum_same (x : Int) (n : Nat) : (ls (fun _ => x) n).sum = n * x := by rw [ls_sum, sm_const]
theorem mem_same {x z : Int} {n : Nat} (h : z ∈ ls (fun _ => x) n) : z = x := by
  unfold ls at h
  obtain ⟨i, _, rfl⟩ := List.mem_map.1 h
  rfl

set_option maxRecDepth 100000 in
theorem even_walk (a x m : Int) (w : World) (wa : (Lit.int .i64 a).wf = true) (wx : (Lit.int .i64 x).wf = true) (wm : (Lit.int .u8 m).wf = true) :
    Calls Try.prog 7 #[.int .i64 a, .int .i64 x, .int .u8 m] w fun e w' => e = .returned (.bool true) ∧ Below w.heap.size w w' := by
  have fa : Fit1 a := bounds_i64 wa
  have fx : Fit1 x := bounds_i64 wx
  have fm : 0 ≤ m ∧ m ≤ 255 := bounds_u8 wm
  obtain ⟨m0, m1⟩ := fm
  clear wa wx wm
  obtain ⟨n, rfl⟩ : ∃ n : Nat, m = (n : Int) := ⟨m.toNat, by omega⟩
  have rk : IntKind.i64.wrap (n : Int) = (n : Int) := IntWalk.i64_in _ (by omega)
  by_cases c0 : n = 0
  · subst c0
    clear fa fx
    go_enter Try.func7, Try.ntmps7
    go_wp2_with fail
    refine (slive_ok _).mono ?_
    rintro e w1 ⟨rfl, hb1⟩
    go_wp2
    go_ret
    exact ⟨rfl, hb1⟩
  have d0 : ((n : Int) == 0) = false := beq_eq_false_iff_ne.2 (by omega)
  have n0 : 0 < n := by omega
  by_cases c1 : x < 1
  · have d1 : decide (x < 1) = true := decide_eq_true c1
    clear fa fx
    go_enter Try.func7, Try.ntmps7
    go_wp2_with fail
    refine (slive_ok _).mono ?_
    rintro e w1 ⟨rfl, hb1⟩
    go_wp2
    go_ret
    exact ⟨rfl, hb1⟩
  have d1 : decide (x < 1) = false := decide_eq_false c1
  obtain ⟨u, hu⟩ : ∃ u, (9223372036854775807 : Int) / (n : Int) = u := ⟨_, rfl⟩
  have ht : (9223372036854775807 : Int).tdiv (n : Int) = u := by rw [← hu]; exact Int.tdiv_eq_ediv_of_nonneg (by omega)
  have u1 : u ≤ 9223372036854775807 := by
    rw [← hu]; exact Int.ediv_le_self _ (by omega)
  have u0 : 0 ≤ u := by rw [← hu]; exact Int.ediv_nonneg (by omega) (by omega)
  by_cases c2 : u < x
  · have d2 : decide (u < x) = true := decide_eq_true c2
    clear fa fx
    go_enter Try.func7, Try.ntmps7
    go_wp2_with fail
    refine (slive_ok _).mono ?_
    rintro e w1 ⟨rfl, hb1⟩
    go_wp2
    go_ret
    exact ⟨rfl, hb1⟩
  · have d2 : decide (u < x) = false := decide_eq_false c2
    have big : (n : Int) * x ≤ 9223372036854775807 := by
      have h1 : (n : Int) * x ≤ n * u := Int.mul_le_mul_of_nonneg_left (by omega) (by omega)
      have h2 := Int.mul_ediv_add_emod (9223372036854775807 : Int) (n : Int)
      have h3 := Int.emod_nonneg (9223372036854775807 : Int) (show (n : Int) ≠ 0 by omega)
      rw [hu] at h2
      omega
    have pos : 0 < (n : Int) * x := Int.mul_pos (by omega) (by omega)
    have SE := split_even (a := a) (x := x) (by omega) n0
    have r0 := Int.emod_nonneg a (show (n : Int) ≠ 0 by omega)
    have r1 := Int.emod_lt_of_pos a (show 0 < (n : Int) by omega)
    have qb : -9223372036854775808 ≤ a / (n : Int) ∧ a / (n : Int) + 1 ≤ 9223372036854775808 := by
      have q := Int.mul_ediv_add_emod a (n : Int)
      unfold Fit1 at fa
      constructor
      · by_cases c : -9223372036854775808 ≤ a / (n : Int)
        · exact c
        · have h1 : (n : Int) * (a / n + 1) ≤ n * (-9223372036854775808) := Int.mul_le_mul_of_nonneg_left (by omega) (by omega)
          rw [Int.mul_add, Int.mul_one] at h1
          omega
      · by_cases c : a / (n : Int) + 1 ≤ 9223372036854775808
        · exact c
        · have h1 : (n : Int) * 9223372036854775808 ≤ n * (a / n) := Int.mul_le_mul_of_nonneg_left (by omega) (by omega)
          omega
    have cm := fun W => Vl.muldiv_to a 1 n (a / n) (a % n) 0 W fa (by unfold Fit1; omega) (by unfold Fit1; omega) (.inr (.inr (.inr ⟨by omega, rfl, by unfold Fit1; omega, by rw [Int.mul_one], by rw [Int.mul_one]⟩)))
    have UP : ∀ i : Nat, i < n → (i : Int) < a % n → a / (n : Int) + 1 ≤ 9223372036854775807 := fun i hi h => by
      have hh := SE.2
      have f := split_fit fa SE.1 SE.2 i hi
      simp only [h, if_true] at f
      unfold Fit1 at f; omega
    have HSE := Lib.hid SE
    have HUP := Lib.hid UP
    have HF := Lib.hid (And.intro fa (And.intro fx (And.intro big pos)))
    generalize hq : a / (n : Int) = q at cm qb UP
    generalize hr : a % (n : Int) = r at cm r0 r1 UP
    have HQ := Lib.hid (And.intro hq hr)
    obtain ⟨q0, q1⟩ := qb
    obtain ⟨cs, hmk, hrow⟩ := make_row_u8 n (by omega)
    have HW := Lib.hid hrow
    have nz : ¬ ((n : Int) = 0) := by omega
    have wt1 : IntKind.i64.wrap u = u := IntWalk.i64_in _ (by omega)
    have x1 : 1 ≤ x := by omega
    clear SE hq hr big pos fa fx hrow hu UP c1 c2
    go_enter Try.func7, Try.ntmps7
    go_wp2_with fail
    refine (slive_ok _).mono ?_
    rintro e w1 ⟨rfl, hb1⟩
    have R1 := HW.out w1
    have B1 := balloc hb1 (.cells cs 2)
    have SZ := hb1.size
    go_wp2_with fail
    generalize w1.alloc (.cells cs 2) = W2 at R1 B1 ⊢
    generalize w1.heap.size = G at R1 SZ ⊢
    clear hmk hb1
    go_loopw [38] (fun Y wr => ∃ k : Nat, k ≤ n ∧ Y = .int .i64 k ∧ Below w.heap.size w wr ∧ Row wr G n (fun i => if i < k then x else 0)) (fun Y _ => n - (intOf Y).toNat)
    case atStart => exact ⟨0, by omega, rfl, B1, row_congr R1 (fun i _ => by simp)⟩
    case round =>
      clear R1 B1
      obtain ⟨k, hk, rfl, B1, R1⟩ := hrel
      by_cases hlt : k < n
      · have p1 := R1.c k hlt
        have p2 := R1.fz k hlt
        have R2 := row_congr (R1.set x hlt) (f' := fun i => if i < k + 1 then x else 0) (fun i _ => by
          by_cases e1 : i = k
          · subst e1; rw [if_pos rfl, if_pos (by omega)]
          · by_cases e2 : i < k
            · rw [if_neg e1, if_pos e2, if_pos (by omega)]
            · rw [if_neg e1, if_neg e2, if_neg (by omega)])
        have B2 := bset B1 SZ k (.int .i64 x)
        generalize (if k < k then x else 0) = u1 at p1
        have pp : (0 : Int) ≤ (k : Int) := by omega
        have bp : (k : Int) < (n : Int) := by omega
        clear R1 B1
        go_wp2
        go_roundw
        case rel => exact ⟨k + 1, by omega, by go_num, B2, R2⟩
        case measure => simp [intOf] <;> omega
      · obtain rfl : k = n := by omega
        have R2 := row_congr R1 (f' := fun _ => x) (fun i hi => by simp only [hi, if_true])
        have c1 := split_go (some ⟨G, 0, none⟩) k k (ls (fun _ => x) k) a wr (ls_len _ _) n0 (by omega) HF.out.1 (fun z hz => by rw [mem_same hz]; exact HF.out.2.1) (row_rd R2) (fun z hz => by rw [mem_same hz]; omega) (by rw [sum_same]; exact HF.out.2.2.2) (by rw [sum_same]; have := HF.out.2.2; unfold Fit1; omega)
        clear R1 R2
        go_wp2_with fail
        refine c1.mono ?_
        rintro e w2 ⟨g, o, rfl, ro, gl, ho, hb2⟩
        replace B1 := bthen B1 hb2
        have U : ∀ i : Nat, i < k → o i = q + if (i : Int) < r then 1 else 0 := fun i hi => by
          rw [← HQ.out.1, ← HQ.out.2]
          exact split_unique (split_congr (fun i hi => ls_at _ hi) ho) HSE.out.2 i hi
        have HU := Lib.hid U
        clear c1 hb2 ho U gl
        go_wp2_with fail
        refine (cm _).mono ?_
        rintro e w3 ⟨rfl, hb2⟩
        replace B1 := bthen B1 hb2
        replace ro := ro.kept hb2
        clear hb2 cm
        go_wp2
        go_loopw [74] (fun Y wr => ∃ j : Nat, j ≤ k ∧ Y = .int .i64 j ∧ Below w.heap.size w wr ∧ Row wr g k o) (fun Y _ => k - (intOf Y).toNat)
        case atStart => exact ⟨0, by omega, rfl, B1, ro⟩
        case round =>
          clear B1 ro
          obtain ⟨j, hj, rfl, B1, ro⟩ := hrel
          by_cases jlt : j < k
          · have oc := ro.c j jlt
            rw [HU.out j jlt] at oc
            have pp : (0 : Int) ≤ (j : Int) := by omega
            have bp : (j : Int) < (k : Int) := by omega
            by_cases jr : (j : Int) < r
            · rw [if_pos jr] at oc
              have up := HUP.out j jlt (by rw [HQ.out.2]; exact jr)
              rw [HQ.out.1] at up
              have d3 : decide ((j : Int) < r) = true := decide_eq_true jr
              have rw1 : IntKind.i64.wrap (q + 1) = q + 1 := IntWalk.i64_in _ (by omega)
              clear HU
              go_wp2
              go_roundw
              case rel => exact ⟨j + 1, by omega, by go_num, B1, ro⟩
              case measure => simp [intOf] <;> omega
            · rw [if_neg jr, Int.add_zero] at oc
              have d3 : decide ((j : Int) < r) = false := decide_eq_false jr
              clear HU
              go_wp2
              go_roundw
              case rel => exact ⟨j + 1, by omega, by go_num, B1, ro⟩
              case measure => simp [intOf] <;> omega
          · obtain rfl : j = k := by omega
            go_wp2
            go_ret
            exact ⟨rfl, B1⟩

end Go.Proofs.Ytapddciodoobfaa.Sl
