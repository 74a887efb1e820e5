/- Exact of package share, where the weights may be. -/
import Derived.Test.YtapddciodoobfaaSprog2
import Derived.Test.YtapddciodoobfaaRowp
import Derived.Test.YtapddciodoobfaaQops
import Derived.Test.YtapddciodoobfaaQlaw
namespace Go.Proofs.Ytapddciodoobfaa.Sr
set_option linter.unusedSimpArgs false
set_option linter.unusedVariables false
open Go.RowKit Go.Proofs.Ytapddciodoobfaa.Vm Go.Proofs.Ytapddciodoobfaa.Vc Go.Proofs.Ytapddciodoobfaa.Pr Go.Proofs.Ytapddciodoobfaa.Rk Go.Proofs.Ytapddciodoobfaa.Sm Go.Proofs.Ytapddciodoobfaa.Om Go.Proofs.Ytapddciodoobfaa.Os Go.Proofs.Ytapddciodoobfaa.Qm

set_option maxHeartbeats 1000000

theorem infoR : (Try.prog.info? 38).map (fun i => (i.zero, i.size, i.bytes)) = some (some (.agg #[.int .i64 0, .int .i64 0]), 2, 16) := by kernel_rfl
theorem underR : Try.prog.underlying 27 = some (.slice 38) := by kernel_rfl

/-- a new row of ratios, noughts -/
theorem make_rowp (n : Nat) (hn : n ≤ 1000000) :
    ∃ cs : Array Value, (∀ w, (Instr.makeSlice 27 (.int .i64 (n : Int)) (.int .i64 (n : Int))).run Try.prog w = .ok (.slice (some ⟨w.heap.size, 0, none⟩) n n) (w.alloc (.cells cs 38))) ∧ ∀ w : World, Rowp (w.alloc (.cells cs 38)) w.heap.size n (fun _ => 0) (fun _ => 0) := by
  obtain ⟨i, hi, hz0, hz1, hz2⟩ := info_parts infoR
  have e1 : (n : Int).toNat = n := by omega
  have at' : ∀ j, j < n * 2 → (madeCells #[Value.int .i64 0, .int .i64 0] (n * 2))[j]? = some (.int .i64 0) := fun j hj => by
    unfold madeCells
    have hm : j % 2 = 0 ∨ j % 2 = 1 := by omega
    rcases hm with h | h <;> simp [hj, h]
  refine ⟨madeCells #[.int .i64 0, .int .i64 0] (n * 2), fun w => ?_, fun w => ⟨by simp, fun i hi => ?_, fun i hi => ?_, fun i hi => by simp [go_sem], fun i hi => by simp [go_sem]⟩⟩
  · have h := run_make (P := Try.prog) (w := w) 27 38 i (.agg #[.int .i64 0, .int .i64 0]) underR hi hz0 .i64 .i64 n n (by omega) (by omega) (by rw [hz2]; omega) (by omega)
    rw [e1, hz1] at h
    exact h
  · simp [go_sem, at' (i * 2) (by omega)]
  · simp [go_sem, at' (i * 2 + 1) (by omega)]

/-- one share, by way of the weight's part of the total -/
theorem share_op {a x t : Int} (x0 : 0 ≤ x) (xt : x ≤ t) (tp : 0 < t) (ft : Fit1 t) {N D er : Int} (R : Rat1 (a * x) t N D er) :
    ∃ N1 D1, MakeRes x t N1 D1 0 ∧ Fit1 N1 ∧ Fit1 D1 ∧ OpRes a 1 N1 D1 (a * N1) (1 * D1) N D er := by
  obtain ⟨N1, D1, er1, m1⟩ := makeres_ex x t
  rcases id m1 with ⟨h, _⟩ | ⟨hd, r1⟩
  · omega
  rcases r1 with ⟨rfl, low, e1, f1, f2⟩ | ⟨rfl, rfl, rfl, no⟩
  · have d1 : D1 ≠ 0 := by have := low.1; omega
    refine ⟨N1, D1, m1, f1, f2, .inl ⟨⟨by omega, by simp⟩, low, ?_⟩⟩
    have iff : ∀ N' D' : Int, N' * t = a * x * D' ↔ N' * (1 * D1) = a * N1 * D' := by
      intro N' D'
      have k : a * N1 * D' * t = a * x * D' * D1 := by
        have : a * N1 * D' * t = a * D' * (N1 * t) := by ac_rfl
        rw [this, e1]; ac_rfl
      constructor
      · intro h
        apply Int.eq_of_mul_eq_mul_right (show t ≠ 0 by omega)
        rw [k, ← h, Int.one_mul]; ac_rfl
      · intro h
        apply Int.eq_of_mul_eq_mul_right d1
        rw [← k, ← h, Int.one_mul]; ac_rfl
    rcases R with ⟨he, l, e, f⟩ | ⟨he, hN, hD, no⟩
    · exact .inl ⟨he, l, (iff _ _).1 e, f⟩
    · exact .inr ⟨he, hN, hD, fun N' D' l e => no N' D' l ((iff _ _).2 e)⟩
  · exfalso
    obtain ⟨N', D', l, e⟩ := low_ex x hd
    have dv : D' ∣ t := cop_dvd (b := N') (by rw [Int.gcd_comm]; exact l.2) ⟨x, by rw [e, Int.mul_comm]⟩
    have d0 := l.1
    have d1 := Int.le_of_dvd tp dv
    have n0 : 0 ≤ N' := by
      by_cases c : 0 ≤ N'
      · exact c
      · have h1 : N' * t ≤ -1 * t := Int.mul_le_mul_of_nonneg_right (by omega) (by omega)
        have h2 : 0 ≤ x * D' := Int.mul_nonneg x0 (by omega)
        omega
    have n1 : N' ≤ D' := by
      by_cases c : N' ≤ D'
      · exact c
      · have h1 : (D' + 1) * t ≤ N' * t := Int.mul_le_mul_of_nonneg_right (by omega) (by omega)
        have h2 : x * D' ≤ t * D' := Int.mul_le_mul_of_nonneg_right xt (by omega)
        rw [Int.add_mul, Int.mul_comm D' t] at h1
        omega
    unfold Fit1 at ft
    exact no N' D' l e ⟨by unfold Fit1; omega, by unfold Fit1; omega⟩

def ExactRes (w : World) (n : Nat) (N D : Nat → Int) (e : Ending) (w' : World) : Prop :=
  ∃ g : Nat, e = .returned (.tuple #[.slice (some ⟨g, 0, none⟩) n n, .int .i64 0]) ∧ Rowp w' g n N D ∧ w.heap.size ≤ g ∧ Below w.heap.size w w'

set_option maxRecDepth 100000 in
theorem exact_go (A : Option Addr) (n cap : Nat) (zs : List Int) (a : Int) (N D : Nat → Int) (w : World) (hn : zs.length = n) (n0 : 0 < n) (n1 : n ≤ 4096) (fa : Fit1 a) (hf : ∀ z ∈ zs, Fit1 z) (hr : Rd w w.heap.size A zs) (hp : ∀ z ∈ zs, 0 ≤ z) (hs : 0 < zs.sum) (fs : Fit1 zs.sum)
    (R : ∀ i, i < n → Rat1 (a * wt zs i) zs.sum (N i) (D i) 0) :
    Calls Try.prog 13 #[.int .i64 a, .slice A n cap] w (ExactRes w n N D) := by
  have ct := fun w h => together_any A n cap zs zs.sum 0 w hn (by omega) hf h (.inr (.inr ⟨by omega, hp, .inr (.inr ⟨hs, fs, rfl, rfl⟩)⟩))
  obtain ⟨b, off, rfl, hb, hcell⟩ := hr.resolve_left (by intro e; rw [e] at hn; simp at hn; omega)
  have M : MayBe (wt zs) n := by rw [← hn]; exact may_list hp hs
  have te : tot (wt zs) n = zs.sum := by rw [← hn]; exact sm_list zs
  obtain ⟨t, ht⟩ : ∃ t, t = zs.sum := ⟨_, rfl⟩
  rw [← ht] at ct te hs fs R
  obtain ⟨x, hx⟩ : ∃ x, x = wt zs := ⟨_, rfl⟩
  have hcell2 : ∀ i, i < n → w.cell? ⟨b, off + i, none⟩ = some (.int .i64 (x i)) := fun i hi => by rw [hx]; exact hcell i (by omega)
  have fx : ∀ i, i < n → Fit1 (x i) := fun i hi => by rw [hx]; exact hf _ (getD_mem (by omega))
  rw [← hx] at M te R
  have CM : Hid (∀ i, i < n → ∃ N1 D1, (∀ W, Calls Try.prog 29 #[.int .i64 (x i), .int .i64 t] W fun e w' => e = .returned (.tuple #[.agg #[.int .i64 N1, .int .i64 D1], .int .i64 0]) ∧ Below W.heap.size W w') ∧
      (∀ W, Calls Try.prog 30 #[.agg #[.int .i64 a, .int .i64 1], .agg #[.int .i64 N1, .int .i64 D1]] W fun e w' => e = .returned (.tuple #[.agg #[.int .i64 (N i), .int .i64 (D i)], .int .i64 0]) ∧ Below W.heap.size W w')) :=
    Lib.hid (fun i hi => by
      obtain ⟨N1, D1, m1, f1, f2, o1⟩ := share_op (a := a) (M.1 i hi) (by have := w_le M hi; rw [te] at this; exact this) hs fs (R i hi)
      exact ⟨N1, D1, fun W => Qc.Make_any (x i) t N1 D1 0 W (fx i hi) fs m1, fun W => Qc.Mul_op a 1 N1 D1 (N i) (D i) 0 W fa (by unfold Fit1; omega) f1 f2 o1⟩)
  have HX := Lib.hid hcell2
  have ct0 := ct w hr
  obtain ⟨cs, hmk, hrow⟩ := make_rowp n (by omega)
  have HR := Lib.hid hrow
  clear ct hcell hcell2 M te fx hr hp hf hn ht hx hs fs hrow R fa
  go_enter Try.func13, Try.ntmps13
  go_wp2_with fail
  refine ct0.mono ?_
  rintro e w1 ⟨rfl, hb1⟩
  have R1 := HR.out w1
  have B1 := balloc hb1 (.cells cs 38)
  have SZ := hb1.size
  clear ct0
  go_wp2_with fail
  generalize w1.alloc (.cells cs 38) = W2 at R1 B1 ⊢
  generalize w1.heap.size = G at R1 SZ ⊢
  clear hmk hb1
  go_loopw [26] (fun Y wr => ∃ k : Nat, k ≤ n ∧ Y = .int .i64 k ∧ Below w.heap.size w wr ∧ Rowp wr G n (fun i => if i < k then N i else 0) (fun i => if i < k then D i else 0)) (fun Y _ => n - (intOf Y).toNat)
  case atStart => exact ⟨0, by omega, rfl, B1, R1.congr (fun i _ => by simp) (fun i _ => by simp)⟩
  case round =>
    clear R1 B1
    obtain ⟨k, hk, rfl, B1, R1⟩ := hrel
    by_cases hlt : k < n
    · have hc := (B1.cell (p := ⟨b, off + k, none⟩) hb).trans (HX.out k hlt)
      obtain ⟨N1, D1, c1, c2⟩ := CM.out k hlt
      generalize x k = xk at hc c1
      go_wp2_with fail
      refine (c1 _).mono ?_
      rintro e w2 ⟨rfl, hb2⟩
      replace B1 := bthen B1 hb2
      replace R1 := R1.kept hb2
      clear hb2 hc c1
      go_wp2_with fail
      refine (c2 _).mono ?_
      rintro e w3 ⟨rfl, hb2⟩
      have A3 : Below w2.heap.size w2 (w2.alloc (.cells #[.int .i64 N1, .int .i64 D1] 38)) := balloc (Below.refl _ _) _
      replace B1 := bthen (balloc B1 _) hb2
      replace R1 := (R1.kept A3).kept hb2
      clear hb2 A3 c2
      have X := (R1.set hlt (N k) (D k)).congr (f' := fun i => if i < k + 1 then N i else 0) (d' := fun i => if i < k + 1 then D i else 0) (fun i _ => by
        by_cases e1 : i = k
        · subst e1; rw [if_pos rfl, if_pos (by omega)]
        · by_cases e2 : i < k
          · rw [if_neg e1, if_pos e2, if_pos (by omega)]
          · rw [if_neg e1, if_neg e2, if_neg (by omega)]) (fun i _ => by
        by_cases e1 : i = k
        · subst e1; rw [if_pos rfl, if_pos (by omega)]
        · by_cases e2 : i < k
          · rw [if_neg e1, if_pos e2, if_pos (by omega)]
          · rw [if_neg e1, if_neg e2, if_neg (by omega)])
      have B2 := bset (bset B1 SZ (k * 2) (.int .i64 (N k))) SZ (k * 2 + 1) (.int .i64 (D k))
      have p0 := R1.c0 k hlt
      have p1 := R1.c1 k hlt
      have z0 := R1.z0 k hlt
      have z1 := R1.z1 k hlt
      generalize (if k < k then N k else 0) = u0 at p0
      generalize (if k < k then D k else 0) = u1 at p1
      generalize N k = Nk at X B2 ⊢
      generalize D k = Dk at X B2 ⊢
      have pp : (0 : Int) ≤ (k : Int) := by omega
      have bp : (k : Int) < (n : Int) := by omega
      clear R1 B1
      go_wp2
      go_roundw
      case rel => exact ⟨k + 1, by omega, by go_num, B2, X⟩
      case measure => simp [intOf] <;> omega
    · obtain rfl : k = n := by omega
      have Y : ExactRes w k N D (.returned (.tuple #[.slice (some ⟨G, 0, none⟩) k k, .int .i64 0])) _ := ⟨G, rfl, R1.congr (fun i hi => by simp only [hi, if_true]) (fun i hi => by simp only [hi, if_true]), SZ, B1⟩
      have HY := Lib.hid Y
      clear Y R1 B1
      go_wp2
      exact bodyPost_ret (v := .tuple #[.slice (some ⟨G, 0, none⟩) k k, .int .i64 0]) (by simp [results, Try.results13, go_sem]) rfl HY.out

set_option maxRecDepth 100000 in
theorem exact_over (A : Option Addr) (n cap : Nat) (zs : List Int) (a : Int) (N D : Nat → Int) (k0 : Nat) (hk0 : k0 < n) (w : World) (hn : zs.length = n) (n0 : 0 < n) (n1 : n ≤ 4096) (fa : Fit1 a) (hf : ∀ z ∈ zs, Fit1 z) (hr : Rd w w.heap.size A zs) (hp : ∀ z ∈ zs, 0 ≤ z) (hs : 0 < zs.sum) (fs : Fit1 zs.sum)
    (R : ∀ i, i < k0 → Rat1 (a * wt zs i) zs.sum (N i) (D i) 0) (RE : Rat1 (a * wt zs k0) zs.sum 0 0 2) :
    Calls Try.prog 13 #[.int .i64 a, .slice A n cap] w fun e w' => e = .returned (.tuple #[.slice none 0 0, .int .i64 2]) ∧ Below w.heap.size w w' := by
  have ct := fun w h => together_any A n cap zs zs.sum 0 w hn (by omega) hf h (.inr (.inr ⟨by omega, hp, .inr (.inr ⟨hs, fs, rfl, rfl⟩)⟩))
  obtain ⟨b, off, rfl, hb, hcell⟩ := hr.resolve_left (by intro e; rw [e] at hn; simp at hn; omega)
  have M : MayBe (wt zs) n := by rw [← hn]; exact may_list hp hs
  have te : tot (wt zs) n = zs.sum := by rw [← hn]; exact sm_list zs
  obtain ⟨t, ht⟩ : ∃ t, t = zs.sum := ⟨_, rfl⟩
  rw [← ht] at ct te hs fs R RE
  obtain ⟨x, hx⟩ : ∃ x, x = wt zs := ⟨_, rfl⟩
  have hcell2 : ∀ i, i < n → w.cell? ⟨b, off + i, none⟩ = some (.int .i64 (x i)) := fun i hi => by rw [hx]; exact hcell i (by omega)
  have fx : ∀ i, i < n → Fit1 (x i) := fun i hi => by rw [hx]; exact hf _ (getD_mem (by omega))
  rw [← hx] at M te R RE
  have CM : Hid (∀ i, i < k0 → ∃ N1 D1, (∀ W, Calls Try.prog 29 #[.int .i64 (x i), .int .i64 t] W fun e w' => e = .returned (.tuple #[.agg #[.int .i64 N1, .int .i64 D1], .int .i64 0]) ∧ Below W.heap.size W w') ∧
      (∀ W, Calls Try.prog 30 #[.agg #[.int .i64 a, .int .i64 1], .agg #[.int .i64 N1, .int .i64 D1]] W fun e w' => e = .returned (.tuple #[.agg #[.int .i64 (N i), .int .i64 (D i)], .int .i64 0]) ∧ Below W.heap.size W w')) :=
    Lib.hid (fun i hi => by
      obtain ⟨N1, D1, m1, f1, f2, o1⟩ := share_op (a := a) (M.1 i (by omega)) (by have := w_le M (show i < n by omega); rw [te] at this; exact this) hs fs (R i hi)
      exact ⟨N1, D1, fun W => Qc.Make_any (x i) t N1 D1 0 W (fx i (by omega)) fs m1, fun W => Qc.Mul_op a 1 N1 D1 (N i) (D i) 0 W fa (by unfold Fit1; omega) f1 f2 o1⟩)
  have CE : Hid (∃ N1 D1, (∀ W, Calls Try.prog 29 #[.int .i64 (x k0), .int .i64 t] W fun e w' => e = .returned (.tuple #[.agg #[.int .i64 N1, .int .i64 D1], .int .i64 0]) ∧ Below W.heap.size W w') ∧
      (∀ W, Calls Try.prog 30 #[.agg #[.int .i64 a, .int .i64 1], .agg #[.int .i64 N1, .int .i64 D1]] W fun e w' => e = .returned (.tuple #[.agg #[.int .i64 0, .int .i64 0], .int .i64 2]) ∧ Below W.heap.size W w')) :=
    Lib.hid (by
      obtain ⟨N1, D1, m1, f1, f2, o1⟩ := share_op (a := a) (M.1 k0 hk0) (by have := w_le M hk0; rw [te] at this; exact this) hs fs RE
      exact ⟨N1, D1, fun W => Qc.Make_any (x k0) t N1 D1 0 W (fx k0 hk0) fs m1, fun W => Qc.Mul_op a 1 N1 D1 0 0 2 W fa (by unfold Fit1; omega) f1 f2 o1⟩)
  have HX := Lib.hid hcell2
  have ct0 := ct w hr
  obtain ⟨cs, hmk, hrow⟩ := make_rowp n (by omega)
  have HR := Lib.hid hrow
  clear ct hcell hcell2 M te fx hr hp hf hn ht hx hs fs hrow R RE fa
  go_enter Try.func13, Try.ntmps13
  go_wp2_with fail
  refine ct0.mono ?_
  rintro e w1 ⟨rfl, hb1⟩
  have R1 := HR.out w1
  have B1 := balloc hb1 (.cells cs 38)
  have SZ := hb1.size
  clear ct0
  go_wp2_with fail
  generalize w1.alloc (.cells cs 38) = W2 at R1 B1 ⊢
  generalize w1.heap.size = G at R1 SZ ⊢
  clear hmk hb1
  go_loopw [26] (fun Y wr => ∃ k : Nat, k ≤ k0 ∧ Y = .int .i64 k ∧ Below w.heap.size w wr ∧ Rowp wr G n (fun i => if i < k then N i else 0) (fun i => if i < k then D i else 0)) (fun Y _ => n - (intOf Y).toNat)
  case atStart => exact ⟨0, by omega, rfl, B1, R1.congr (fun i _ => by simp) (fun i _ => by simp)⟩
  case round =>
    clear R1 B1
    obtain ⟨k, hk, rfl, B1, R1⟩ := hrel
    by_cases hlt0 : k < k0
    · have hlt : k < n := by omega
      have hc := (B1.cell (p := ⟨b, off + k, none⟩) hb).trans (HX.out k hlt)
      obtain ⟨N1, D1, c1, c2⟩ := CM.out k hlt0
      generalize x k = xk at hc c1
      go_wp2_with fail
      refine (c1 _).mono ?_
      rintro e w2 ⟨rfl, hb2⟩
      replace B1 := bthen B1 hb2
      replace R1 := R1.kept hb2
      clear hb2 hc c1
      go_wp2_with fail
      refine (c2 _).mono ?_
      rintro e w3 ⟨rfl, hb2⟩
      have A3 : Below w2.heap.size w2 (w2.alloc (.cells #[.int .i64 N1, .int .i64 D1] 38)) := balloc (Below.refl _ _) _
      replace B1 := bthen (balloc B1 _) hb2
      replace R1 := (R1.kept A3).kept hb2
      clear hb2 A3 c2
      have X := (R1.set hlt (N k) (D k)).congr (f' := fun i => if i < k + 1 then N i else 0) (d' := fun i => if i < k + 1 then D i else 0) (fun i _ => by
        by_cases e1 : i = k
        · subst e1; rw [if_pos rfl, if_pos (by omega)]
        · by_cases e2 : i < k
          · rw [if_neg e1, if_pos e2, if_pos (by omega)]
          · rw [if_neg e1, if_neg e2, if_neg (by omega)]) (fun i _ => by
        by_cases e1 : i = k
        · subst e1; rw [if_pos rfl, if_pos (by omega)]
        · by_cases e2 : i < k
          · rw [if_neg e1, if_pos e2, if_pos (by omega)]
          · rw [if_neg e1, if_neg e2, if_neg (by omega)])
      have B2 := bset (bset B1 SZ (k * 2) (.int .i64 (N k))) SZ (k * 2 + 1) (.int .i64 (D k))
      have p0 := R1.c0 k hlt
      have p1 := R1.c1 k hlt
      have z0 := R1.z0 k hlt
      have z1 := R1.z1 k hlt
      generalize (if k < k then N k else 0) = u0 at p0
      generalize (if k < k then D k else 0) = u1 at p1
      generalize N k = Nk at X B2 ⊢
      generalize D k = Dk at X B2 ⊢
      have pp : (0 : Int) ≤ (k : Int) := by omega
      have bp : (k : Int) < (n : Int) := by omega
      clear R1 B1
      go_wp2
      go_roundw
      case rel => exact ⟨k + 1, by omega, by go_num, B2, X⟩
      case measure => simp [intOf] <;> omega
    · obtain rfl : k = k0 := by omega
      have hc := (B1.cell (p := ⟨b, off + k, none⟩) hb).trans (HX.out k hk0)
      obtain ⟨N1, D1, c1, c2⟩ := CE.out
      generalize x k = xk at hc c1
      go_wp2_with fail
      refine (c1 _).mono ?_
      rintro e w2 ⟨rfl, hb2⟩
      replace B1 := bthen B1 hb2
      replace R1 := R1.kept hb2
      clear hb2 hc c1
      go_wp2_with fail
      refine (c2 _).mono ?_
      rintro e w3 ⟨rfl, hb2⟩
      have A3 : Below w2.heap.size w2 (w2.alloc (.cells #[.int .i64 N1, .int .i64 D1] 38)) := balloc (Below.refl _ _) _
      replace B1 := bthen (balloc B1 _) hb2
      replace R1 := (R1.kept A3).kept hb2
      clear hb2 A3 c2
      have B2 := bset (bset B1 SZ (k * 2) (.int .i64 0)) SZ (k * 2 + 1) (.int .i64 0)
      have p0 := R1.c0 k hk0
      have p1 := R1.c1 k hk0
      have z0 := R1.z0 k hk0
      have z1 := R1.z1 k hk0
      generalize (if k < k then N k else 0) = u0 at p0
      generalize (if k < k then D k else 0) = u1 at p1
      have pp : (0 : Int) ≤ (k : Int) := by omega
      have bp : (k : Int) < (n : Int) := by omega
      clear R1 B1
      go_wp2
      go_ret2
      exact ⟨rfl, B2⟩

theorem exact_no (A : Option Addr) (n cap : Nat) (zs : List Int) (a v er : Int) (w : World) (hn : zs.length = n) (hm2 : (n : Int) ≤ 9223372036854775807) (hf : ∀ z ∈ zs, Fit1 z) (hr : Rd w w.heap.size A zs) (R : AllRes zs v er) (h : er ≠ 0) :
    Calls Try.prog 13 #[.int .i64 a, .slice A n cap] w fun e w' => e = .returned (.tuple #[.slice none 0 0, .int .i64 er]) ∧ Below w.heap.size w w' := by
  have ct := together_any A n cap zs v er w hn hm2 hf hr R
  have d : (er != 0) = true := bne_iff_ne.2 h
  clear R h hf hr hn
  go_enter Try.func13, Try.ntmps13
  go_wp2_with fail
  refine ct.mono ?_
  rintro e w1 ⟨rfl, hb1⟩
  go_wp2
  go_ret2
  exact ⟨rfl, hb1⟩

end Go.Proofs.Ytapddciodoobfaa.Sr
