/- The reference's Few of layer 9, of items that may be. -/
import Derived.Test.YtjebdoecigmkhaaDoorYrdeep
namespace Go.Proofs.YtjebdoecigmkhaaDoor.Yr
set_option linter.unusedSimpArgs false
set_option linter.unusedVariables false
open Go.RowKit Go.Proofs.YtjebdoecigmkhaaDoor.Zm Go.Proofs.YtjebdoecigmkhaaDoor.Zk Go.Proofs.YtjebdoecigmkhaaDoor.Ym Go.Proofs.YtjebdoecigmkhaaDoor.Bn

set_option maxHeartbeats 1000000

theorem countL_snoc (l : List Nd) (n : Nd) : countL (l ++ [n]) = countL l + countN n := by
  induction l with
  | nil => simp [countL]
  | cons m l ih => simp only [List.cons_append, countL, ih]; omega

theorem take_count (l : List Nd) (k : Nat) (hk : k < l.length) : countL (l.take (k + 1)) = countL (l.take k) + countN l[k] := by
  rw [← countL_snoc, List.take_succ_eq_append_getElem hk]

theorem take_count_le (l : List Nd) (k : Nat) : countL (l.take k) ≤ countL l := by
  induction l generalizing k with
  | nil => simp [countL]
  | cons n l ih =>
    cases k with
    | zero => simp [countL]
    | succ k => have := ih k; simp only [List.take_succ_cons, countL]; omega

theorem right_get {d : Nat} {l : List Nd} (h : RightL d l) (i : Nat) (hi : i < l.length) : RightN d l[i] := by
  induction l generalizing i with
  | nil => exact absurd hi (by simp)
  | cons n l ih =>
    cases i with
    | zero => exact h.1
    | succ i => exact ih h.2 i (by simpa using hi)

theorem deep_mem (l : List Nd) (i : Nat) (hi : i < l.length) : deepN l[i] ≤ deepL l := by
  induction l generalizing i with
  | nil => exact absurd hi (by simp)
  | cons n l ih =>
    cases i with
    | zero => simp only [List.getElem_cons_zero, deepL]; omega
    | succ i =>
      have := ih i (by simpa using hi)
      simp only [List.getElem_cons_succ, deepL]; omega

set_option maxRecDepth 100000 in
theorem rLeft_any (N : Nat) (hN : N ≤ 1000000) : ∀ (l : List Nd) (v : Value) (S : Nat → Prop) (w : World) (M D : Int) (d : Nat), countL l < N → NdsV S w v l → (∀ b, S b → b < w.heap.size) →
    RightL d l → (countL l : Int) ≤ M → M ≤ 1000000 → (l = [] ∨ (deepL l : Int) < D) → D ≤ 100 → 0 ≤ D →
    Calls Tryd.prog 38 #[v, .int .i64 M, .int .i64 D] w fun e w' => e = .returned (.int .i64 (M - countL l)) ∧ Below w.heap.size w w' := by
  induction N with
  | zero => intro l v S w M D d h; omega
  | succ N ih =>
    intro l v S w M D d hc hv hS hR hM1 hM2 hD1 hD2 hD3
    have ih := ih (by omega)
    obtain ⟨ptr, cap, rfl, hl⟩ := hv
    have HL := Lib.hid hl
    have HR := Lib.hid hR
    have hlen := len_count l
    obtain ⟨x1, d1⟩ : ∃ x, (D == 0) = x := ⟨_, rfl⟩
    obtain ⟨x2, d2⟩ : ∃ x, decide (0 < l.length) = x := ⟨_, rfl⟩
    have hx : x1 = false ∨ (x1 = true ∧ x2 = false) := by
      cases x1 with
      | false => exact .inl rfl
      | true => cases x2 with
        | false => exact .inr ⟨rfl, rfl⟩
        | true =>
          exfalso
          have e1 := beq_iff_eq.1 d1
          have e2 := of_decide_eq_true d2
          rcases hD1 with h | h
          · rw [h] at e2; simp at e2
          · omega
    have HD := Lib.hid hD1
    clear hl hR hD1
    rcases hx with rfl | ⟨rfl, rfl⟩
    all_goals
      go_enter Tryd.func38, Tryd.ntmps38
      go_wp2_with fail
      go_loopw [1, 18] (fun Q I wr => ∃ k : Nat, k ≤ l.length ∧ I = .int .i64 k ∧ Q = .int .i64 (M - countL (l.take k)) ∧ Below w.heap.size w wr) (fun _ I _ => l.length - (intOf I).toNat)
      case atStart => exact ⟨0, by omega, rfl, by simp [countL], Below.refl _ _⟩
      case round =>
        obtain ⟨k, hk, rfl, rfl, B1⟩ := hrel
        by_cases hlt : k < l.length
        · obtain ⟨g, o, rfl, hf⟩ := HL.out.resolve_left (by intro e; rw [e] at hlt; simp at hlt)
          have hn := hf.get k hlt
          have hcn := count_mem l k hlt
          have hC := Lib.hid (take_count l k hlt)
          have hC3 := take_count_le l k
          have hC4 := take_count_le l (k + 1)
          have hRn := right_get HR.out k hlt
          have hdm := deep_mem l k hlt
          obtain ⟨nm, a, ws, b, ks, he⟩ : ∃ nm a ws b ks, l[k] = Nd.mk nm a ws b ks := by
            cases h : l[k] with
            | mk nm a ws b ks => exact ⟨nm, a, ws, b, ks, rfl⟩
          rw [he] at hn hcn hRn hdm
          rw [he] at hC
          simp only [NdAt] at hn
          simp only [countN] at hcn
          obtain ⟨r1, r2, r3, r4, r5, r6⟩ := hRn
          obtain ⟨h0, x0, x1, ⟨wv, x2, hwv⟩, x3, kp, kc, x4, hks⟩ := hn
          have lg := hS g h0
          have hDl : (deepL l : Int) < D := HD.out.resolve_left (by intro e; rw [e] at hlt; simp at hlt)
          have hC5 := hC.out
          simp only [countN] at hC5
          obtain ⟨Q, hQ⟩ : ∃ Q : Int, M - countL (l.take k) = Q := ⟨_, rfl⟩
          have hkd : ks = [] ∨ (deepL ks : Int) < D - 1 := by
            cases b with
            | false => exact .inl (r4 rfl)
            | true => simp [deepN] at hdm; exact .inr (by omega)
          have ck : ∀ W, Below w.heap.size w W → Calls Tryd.prog 38 #[.slice kp ks.length kc, .int .i64 (Q - 1), .int .i64 (D - 1)] W fun e w' => e = .returned (.int .i64 (Q - 1 - countL ks)) ∧ Below W.heap.size W w' := fun W hB =>
            ih ks _ S W (Q - 1) (D - 1) (d + 1) (by omega) (NdsV.kept (W := w) ⟨kp, kc, rfl, hks⟩ ((Stay.below hB).mono hS)) (fun b hb => Nat.lt_of_lt_of_le (hS b hb) hB.size) r6 (by omega) (by omega) hkd (by omega) (by omega)
          rw [Nat.mul_comm 5 k] at x0 x1 x2 x3 x4
          replace x0 := (B1.cell (p := ⟨g, _, none⟩) lg).trans x0
          replace x1 := (B1.cell (p := ⟨g, _, none⟩) lg).trans x1
          replace x2 := (B1.cell (p := ⟨g, _, none⟩) lg).trans x2
          replace x3 := (B1.cell (p := ⟨g, _, none⟩) lg).trans x3
          replace x4 := (B1.cell (p := ⟨g, _, none⟩) lg).trans x4
          obtain ⟨wp, wc, rfl, _⟩ := hwv
          have hq0 : decide (Q < 0) = false := decide_eq_false (by omega)
          have hq1 : 0 ≤ Q := by omega
          have hq2 : Q ≤ 1000000 := by omega
          have hw0 : decide ((20 : Int) < (ws.length : Int)) = false := decide_eq_false (by omega)
          have hCQ : Hid (M - countL (l.take (k + 1)) = Q - 1 - countL ks) := Lib.hid (by omega)
          rw [hQ]
          clear hks hf ih he hC hC3 hC4 hC5 hQ hdm r1 r2 r3 r4 r5 r6 hkd
          have lg' := Nat.lt_of_lt_of_le lg B1.size
          go_wp2_with fail
          refine (ck _ (balloc B1 _)).mono ?_
          rintro e w2 ⟨rfl, hb⟩
          have B2 := bthen (balloc B1 _) hb
          clear hb
          go_wp2_with fail
          go_roundw
          case rel =>
            refine ⟨k + 1, by omega, by go_num, ?_, B2⟩
            rw [hCQ.out]
          case measure => simp [intOf]; omega
        · obtain rfl : k = l.length := by omega
          have hD : countL (l.take l.length) = countL l := by rw [List.take_length]
          rw [hD]
          go_wp2_with fail
          go_ret
          exact ⟨rfl, B1⟩

set_option maxRecDepth 100000 in
/-- items that may be, few enough, are few -/
theorem rFew_any (l : List Nd) (v : Value) (S : Nat → Prop) (w : World) (M : Int) (hv : NdsV S w v l) (hS : ∀ b, S b → b < w.heap.size) (hR : RightL 0 l) (h1 : (countL l : Int) ≤ M) (h2 : M ≤ 1000) :
    Calls Tryd.prog 18 #[v, .int .i64 M] w fun e w' => e = .returned (.bool true) ∧ Below w.heap.size w w' := by
  have h6 := deepL_right (d := 0) (by decide) hR
  have cl := fun w' hv' hS' => rLeft_any 1000000 (by decide) l v S w' M 12 0 (by omega) hv' hS' hR h1 (by omega) (.inr (by omega)) (by decide) (by decide)
  have c := cl w hv hS
  have hq : decide (0 ≤ M - (countL l : Int)) = true := decide_eq_true (by omega)
  clear cl hv hS hR h6
  go_enter Tryd.func18, Tryd.ntmps18
  go_wp2_with fail
  refine c.mono ?_
  rintro e w1 ⟨rfl, hb⟩
  go_wp2_with fail
  go_ret
  exact ⟨by simp, hb⟩

end Go.Proofs.YtjebdoecigmkhaaDoor.Yr
