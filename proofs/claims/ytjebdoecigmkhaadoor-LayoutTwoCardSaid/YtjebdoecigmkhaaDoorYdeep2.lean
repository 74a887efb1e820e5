/- Deep of package tree, and the reference's, for any items. -/
import Derived.Test.YtjebdoecigmkhaaDoorYgen2
import Derived.OwnWalk
namespace Go.Proofs.YtjebdoecigmkhaaDoor.Yg
set_option linter.unusedSimpArgs false
set_option linter.unusedVariables false
open Go Go.RowKit Go.Proofs.YtjebdoecigmkhaaDoor.Zm Go.Proofs.YtjebdoecigmkhaaDoor.Ym Go.Proofs.YtjebdoecigmkhaaDoor.Bn

set_option maxHeartbeats 2000000

set_option maxRecDepth 100000 in
theorem pDeepI_any (N : Nat) (hN : N ≤ 1000000) : ∀ (l : List NI) (v : Value) (S : Nat → Prop) (w : World), cntL l < N → NsV S w v l → (∀ b, S b → b < w.heap.size) →
    Calls Tryd.prog 22 #[v] w fun e w' => e = .returned (.int .i64 (dpL l)) ∧ Below w.heap.size w w' := by
  induction N with
  | zero => intro l v S w h; omega
  | succ N ih =>
    intro l v S w hc hv hS
    have ih := ih (by omega)
    obtain ⟨ptr, cap, rfl, hl⟩ := hv
    have HL := Lib.hid hl
    have hlen := cnt_len l
    clear hl
    go_enter Tryd.func22, Tryd.ntmps22
    go_wp2_with fail
    go_loopw [3, 9] (fun M I wr => ∃ k : Nat, k ≤ l.length ∧ I = .int .i64 k ∧ M = .int .i64 (dpL (l.take k)) ∧ Below w.heap.size w wr) (fun _ I _ => l.length - (intOf I).toNat)
    case atStart => exact ⟨0, by omega, rfl, by simp [dpL], Below.refl _ _⟩
    case round =>
      obtain ⟨k, hk, rfl, rfl, B1⟩ := hrel
      by_cases hlt : k < l.length
      · obtain ⟨g, o, rfl, hf⟩ := HL.out.resolve_left (by intro e; rw [e] at hlt; simp at hlt)
        obtain ⟨nm, a, ws, b, ks, vw, vk, he, h0, x0, x1, x2, x3, x4, hw, hks⟩ := (hf.get k hlt).un
        have hcn := cnt_get l k hlt
        have hD := Lib.hid (take_dp l k hlt)
        have hD2 := dpL_cnt l
        have hD3 := take_dp_le l k
        rw [he] at hcn
        rw [he] at hD
        simp only [cntN] at hcn
        obtain ⟨kp, kc, rfl, hks⟩ := hks
        have lg := hS g h0
        have ck : ∀ W, Below w.heap.size w W → Calls Tryd.prog 22 #[.slice kp ks.length kc] W fun e w' => e = .returned (.int .i64 (dpL ks)) ∧ Below W.heap.size W w' := fun W hB =>
          ih ks _ S W (by omega) (NsV.on (W := w) ⟨kp, kc, rfl, hks⟩ hS hB) (fun b hb => Nat.lt_of_lt_of_le (hS b hb) hB.size)
        have hdk := dpL_cnt ks
        replace x0 := (B1.cell (p := ⟨g, _, none⟩) lg).trans x0
        replace x1 := (B1.cell (p := ⟨g, _, none⟩) lg).trans x1
        replace x2 := (B1.cell (p := ⟨g, _, none⟩) lg).trans x2
        replace x3 := (B1.cell (p := ⟨g, _, none⟩) lg).trans x3
        replace x4 := (B1.cell (p := ⟨g, _, none⟩) lg).trans x4
        obtain ⟨wp, wc, rfl, _⟩ := hw
        obtain ⟨D, hDe⟩ : ∃ D, dpL (l.take k) = D := ⟨_, rfl⟩
        rw [hDe] at hD3 hD ⊢
        clear hks hf ih he
        have lg' := Nat.lt_of_lt_of_le lg B1.size
        cases b with
        | true =>
          go_wp2_with fail
          refine (ck _ (balloc B1 _)).mono ?_
          rintro e w2 ⟨rfl, hb⟩
          have B2 := bthen (balloc B1 _) hb
          obtain ⟨_, _, _, _, c3, _⟩ := ((Box.new wr #[.string nm, .int .i64 a, .slice wp ws.length wc, .bool true, .slice kp ks.length kc] 40).kept hb).five
          clear hb
          go_wp2_with fail
          go_roundw
          case rel =>
            refine ⟨k + 1, by omega, by go_num, ?_, B2⟩
            rw [hD.out]
            congr 1
            simp only [dpN, if_true, Bool.false_eq_true, if_false]
            split <;> omega
          case measure => simp [intOf]; omega
        | false =>
          go_wp2_with fail
          refine (ck _ (balloc B1 _)).mono ?_
          rintro e w2 ⟨rfl, hb⟩
          have B2 := bthen (balloc B1 _) hb
          obtain ⟨_, _, _, _, c3, _⟩ := ((Box.new wr #[.string nm, .int .i64 a, .slice wp ws.length wc, .bool false, .slice kp ks.length kc] 40).kept hb).five
          clear hb
          go_wp2_with fail
          go_roundw
          case rel =>
            refine ⟨k + 1, by omega, by go_num, ?_, B2⟩
            rw [hD.out]
            congr 1
            simp only [dpN, if_true, Bool.false_eq_true, if_false]
            split <;> omega
          case measure => simp [intOf]; omega
      · obtain rfl : k = l.length := by omega
        have hD : dpL (l.take l.length) = dpL l := by rw [List.take_length]
        rw [hD]
        go_wp2_with fail
        go_ret
        exact ⟨rfl, B1⟩

set_option maxRecDepth 100000 in
theorem rDeepI_any (N : Nat) (hN : N ≤ 1000000) : ∀ (l : List NI) (v : Value) (S : Nat → Prop) (w : World), cntL l < N → NsV S w v l → (∀ b, S b → b < w.heap.size) →
    Calls Tryd.prog 25 #[v] w fun e w' => e = .returned (.int .i64 (dpL l)) ∧ Below w.heap.size w w' := by
  induction N with
  | zero => intro l v S w h; omega
  | succ N ih =>
    intro l v S w hc hv hS
    have ih := ih (by omega)
    obtain ⟨ptr, cap, rfl, hl⟩ := hv
    have HL := Lib.hid hl
    have hlen := cnt_len l
    clear hl
    go_enter Tryd.func25, Tryd.ntmps25
    go_wp2_with fail
    go_loopw [3, 8] (fun M I wr => ∃ k : Nat, k ≤ l.length ∧ I = .int .i64 k ∧ M = .int .i64 (dpL (l.take k)) ∧ Below w.heap.size w wr) (fun _ I _ => l.length - (intOf I).toNat)
    case atStart => exact ⟨0, by omega, rfl, by simp [dpL], Below.refl _ _⟩
    case round =>
      obtain ⟨k, hk, rfl, rfl, B1⟩ := hrel
      by_cases hlt : k < l.length
      · obtain ⟨g, o, rfl, hf⟩ := HL.out.resolve_left (by intro e; rw [e] at hlt; simp at hlt)
        obtain ⟨nm, a, ws, b, ks, vw, vk, he, h0, x0, x1, x2, x3, x4, hw, hks⟩ := (hf.get k hlt).un
        have hcn := cnt_get l k hlt
        have hD := Lib.hid (take_dp l k hlt)
        have hD2 := dpL_cnt l
        have hD3 := take_dp_le l k
        rw [he] at hcn
        rw [he] at hD
        simp only [cntN] at hcn
        obtain ⟨kp, kc, rfl, hks⟩ := hks
        have lg := hS g h0
        have ck : ∀ W, Below w.heap.size w W → Calls Tryd.prog 25 #[.slice kp ks.length kc] W fun e w' => e = .returned (.int .i64 (dpL ks)) ∧ Below W.heap.size W w' := fun W hB =>
          ih ks _ S W (by omega) (NsV.on (W := w) ⟨kp, kc, rfl, hks⟩ hS hB) (fun b hb => Nat.lt_of_lt_of_le (hS b hb) hB.size)
        have hdk := dpL_cnt ks
        replace x0 := (B1.cell (p := ⟨g, _, none⟩) lg).trans x0
        replace x1 := (B1.cell (p := ⟨g, _, none⟩) lg).trans x1
        replace x2 := (B1.cell (p := ⟨g, _, none⟩) lg).trans x2
        replace x3 := (B1.cell (p := ⟨g, _, none⟩) lg).trans x3
        replace x4 := (B1.cell (p := ⟨g, _, none⟩) lg).trans x4
        obtain ⟨wp, wc, rfl, _⟩ := hw
        obtain ⟨D, hDe⟩ : ∃ D, dpL (l.take k) = D := ⟨_, rfl⟩
        rw [hDe] at hD3 hD ⊢
        clear hks hf ih he
        have lg' := Nat.lt_of_lt_of_le lg B1.size
        cases b with
        | true =>
          go_wp2_with fail
          refine (ck _ (balloc B1 _)).mono ?_
          rintro e w2 ⟨rfl, hb⟩
          have B2 := bthen (balloc B1 _) hb
          clear hb
          go_wp2_with fail
          go_roundw
          case rel =>
            refine ⟨k + 1, by omega, by go_num, ?_, B2⟩
            rw [hD.out]
            congr 1
            simp only [dpN, if_true, Bool.false_eq_true, if_false]
            split <;> omega
          case measure => simp [intOf]; omega
        | false =>
          go_wp2_with fail
          refine (ck _ (balloc B1 _)).mono ?_
          rintro e w2 ⟨rfl, hb⟩
          have B2 := bthen (balloc B1 _) hb
          clear hb
          go_wp2_with fail
          go_roundw
          case rel =>
            refine ⟨k + 1, by omega, by go_num, ?_, B2⟩
            rw [hD.out]
            congr 1
            simp only [dpN, if_true, Bool.false_eq_true, if_false]
            split <;> omega
          case measure => simp [intOf]; omega
      · obtain rfl : k = l.length := by omega
        have hD : dpL (l.take l.length) = dpL l := by rw [List.take_length]
        rw [hD]
        go_wp2_with fail
        go_ret
        exact ⟨rfl, B1⟩

end Go.Proofs.YtjebdoecigmkhaaDoor.Yg
