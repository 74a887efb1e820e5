/- The reference's Deep of layer 9. -/
import Derived.Test.YtjebdoecigmkhaaDoorZtok
import Derived.Test.YtjebdoecigmkhaaDoorYrow
import Derived.Test.YtjebdoecigmkhaaDoorYblock
namespace Go.Proofs.YtjebdoecigmkhaaDoor.Yr
set_option linter.unusedSimpArgs false
set_option linter.unusedVariables false
open Go.RowKit Go.Proofs.YtjebdoecigmkhaaDoor.Zm Go.Proofs.YtjebdoecigmkhaaDoor.Zk Go.Proofs.YtjebdoecigmkhaaDoor.Ym Go.Proofs.YtjebdoecigmkhaaDoor.Bn

set_option maxHeartbeats 1000000

theorem count_mem (l : List Nd) (i : Nat) (hi : i < l.length) : countN l[i] ≤ countL l := by
  induction l generalizing i with
  | nil => exact absurd hi (by simp)
  | cons n l ih =>
    cases i with
    | zero => simp only [List.getElem_cons_zero, countL]; omega
    | succ i =>
      have := ih i (by simpa using hi)
      simp only [List.getElem_cons_succ, countL]; omega

mutual
theorem deepN_count : ∀ n : Nd, deepN n ≤ countN n
  | .mk _ _ _ b ks => by
    have := deepL_count ks
    simp only [deepN, countN]
    split <;> omega
theorem deepL_count : ∀ l : List Nd, deepL l ≤ countL l
  | [] => by simp [deepL]
  | n :: l => by
    have := deepN_count n
    have := deepL_count l
    simp only [deepL, countL]; omega
end

theorem len_count (l : List Nd) : l.length ≤ countL l := by
  induction l with
  | nil => simp
  | cons n l ih =>
    have : 1 ≤ countN n := by cases n; simp only [countN]; omega
    simp only [List.length_cons, countL]; omega

theorem take_deep (l : List Nd) (k : Nat) (hk : k < l.length) : deepL (l.take (k + 1)) = max (deepL (l.take k)) (deepN l[k]) := by
  rw [← deepL_snoc, List.take_succ_eq_append_getElem hk]

theorem take_deep_le (l : List Nd) (k : Nat) : deepL (l.take k) ≤ deepL l := by
  induction l generalizing k with
  | nil => simp [deepL]
  | cons n l ih =>
    cases k with
    | zero => simp [deepL]
    | succ k => have := ih k; simp only [List.take_succ_cons, deepL]; omega

set_option maxRecDepth 100000 in
theorem rDeep_any (N : Nat) (hN : N ≤ 1000000) : ∀ (l : List Nd) (v : Value) (S : Nat → Prop) (w : World), countL l < N → NdsV S w v l → (∀ b, S b → b < w.heap.size) →
    Calls Tryd.prog 25 #[v] w fun e w' => e = .returned (.int .i64 (deepL l)) ∧ Below w.heap.size w w' := by
  induction N with
  | zero => intro l v S w h; omega
  | succ N ih =>
    intro l v S w hc hv hS
    have ih := ih (by omega)
    obtain ⟨ptr, cap, rfl, hl⟩ := hv
    have HL := Lib.hid hl
    have hlen := len_count l
    clear hl
    go_enter Tryd.func25, Tryd.ntmps25
    go_wp2_with fail
    go_loopw [3, 8] (fun M I wr => ∃ k : Nat, k ≤ l.length ∧ I = .int .i64 k ∧ M = .int .i64 (deepL (l.take k)) ∧ Below w.heap.size w wr) (fun _ I _ => l.length - (intOf I).toNat)
    case atStart => exact ⟨0, by omega, rfl, by simp [deepL], Below.refl _ _⟩
    case round =>
      obtain ⟨k, hk, rfl, rfl, B1⟩ := hrel
      by_cases hlt : k < l.length
      · obtain ⟨g, o, rfl, hf⟩ := HL.out.resolve_left (by intro e; rw [e] at hlt; simp at hlt)
        have hn := hf.get k hlt
        have hcn := count_mem l k hlt
        have hD := Lib.hid (take_deep l k hlt)
        have hD2 := deepL_count l
        have hD3 := take_deep_le l k
        obtain ⟨nm, a, ws, b, ks, he⟩ : ∃ nm a ws b ks, l[k] = Nd.mk nm a ws b ks := by
          cases h : l[k] with
          | mk nm a ws b ks => exact ⟨nm, a, ws, b, ks, rfl⟩
        rw [he] at hn hcn
        rw [he] at hD
        simp only [NdAt] at hn
        simp only [countN] at hcn
        obtain ⟨h0, x0, x1, ⟨wv, x2, hwv⟩, x3, kp, kc, x4, hks⟩ := hn
        have lg := hS g h0
        have ck : ∀ W, Below w.heap.size w W → Calls Tryd.prog 25 #[.slice kp ks.length kc] W fun e w' => e = .returned (.int .i64 (deepL ks)) ∧ Below W.heap.size W w' := fun W hB =>
          ih ks _ S W (by omega) (NdsV.kept (W := w) ⟨kp, kc, rfl, hks⟩ ((Stay.below hB).mono hS)) (fun b hb => Nat.lt_of_lt_of_le (hS b hb) hB.size)
        have hdk := deepL_count ks
        rw [Nat.mul_comm 5 k] at x0 x1 x2 x3 x4
        replace x0 := (B1.cell (p := ⟨g, _, none⟩) lg).trans x0
        replace x1 := (B1.cell (p := ⟨g, _, none⟩) lg).trans x1
        replace x2 := (B1.cell (p := ⟨g, _, none⟩) lg).trans x2
        replace x3 := (B1.cell (p := ⟨g, _, none⟩) lg).trans x3
        replace x4 := (B1.cell (p := ⟨g, _, none⟩) lg).trans x4
        obtain ⟨wp, wc, rfl, _⟩ := hwv
        obtain ⟨D, hDe⟩ : ∃ D, deepL (l.take k) = D := ⟨_, rfl⟩
        rw [hDe] at hD3 hD ⊢
        clear hks hf ih he
        have lg' := Nat.lt_of_lt_of_le lg B1.size
        cases b with
        | true =>
          go_wp2_with fail
          refine (ck _ (balloc B1 _)).mono ?_
          rintro e w2 ⟨rfl, hb⟩
          have B2 := bthen (balloc B1 _) hb
          clear hb
          go_wp2_with fail
          go_roundw
          case rel =>
            refine ⟨k + 1, by omega, by go_num, ?_, B2⟩
            rw [hD.out]
            congr 1
            simp only [deepN, if_true, Bool.false_eq_true, if_false]
            split <;> omega
          case measure => simp [intOf]; omega
        | false =>
          go_wp2_with fail
          refine (ck _ (balloc B1 _)).mono ?_
          rintro e w2 ⟨rfl, hb⟩
          have B2 := bthen (balloc B1 _) hb
          clear hb
          go_wp2_with fail
          go_roundw
          case rel =>
            refine ⟨k + 1, by omega, by go_num, ?_, B2⟩
            rw [hD.out]
            congr 1
            simp only [deepN, if_true, Bool.false_eq_true, if_false]
            split <;> omega
          case measure => simp [intOf]; omega
      · obtain rfl : k = l.length := by omega
        have hD : deepL (l.take l.length) = deepL l := by rw [List.take_length]
        rw [hD]
        go_wp2_with fail
        go_ret
        exact ⟨rfl, B1⟩

end Go.Proofs.YtjebdoecigmkhaaDoor.Yr
