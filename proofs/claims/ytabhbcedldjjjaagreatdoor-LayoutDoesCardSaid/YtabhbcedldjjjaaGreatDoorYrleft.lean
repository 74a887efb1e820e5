/- The reference's Few, for any items that came in. -/
import Derived.Test.YtabhbcedldjjjaaGreatDoorYgen2
import Derived.OwnWalk
namespace Go.Proofs.YtabhbcedldjjjaaGreatDoor.Yg
set_option linter.unusedSimpArgs false
set_option linter.unusedVariables false
open Go Go.RowKit Go.Proofs.YtabhbcedldjjjaaGreatDoor.Zm Go.Proofs.YtabhbcedldjjjaaGreatDoor.Ym Go.Proofs.YtabhbcedldjjjaaGreatDoor.Bn

set_option maxHeartbeats 2000000

theorem drop_no (f : List NI → Int → Int) {l : List NI} {k : Nat} (hk : k < l.length) {nm : ByteArray} {a : Int} {ws : List WI} {b : Bool} {ks : List NI} (he : l[k] = .mk nm a ws b ks) (m : Int) (h : ¬ (m < 0 ∨ 20 < ws.length)) : lftGo f (l.drop k) m = lftGo f (l.drop (k + 1)) (f ks (m - 1)) := by
  rw [List.drop_eq_getElem_cons hk, he]
  exact if_neg h
theorem drop_yes (f : List NI → Int → Int) {l : List NI} {k : Nat} (hk : k < l.length) {nm : ByteArray} {a : Int} {ws : List WI} {b : Bool} {ks : List NI} (he : l[k] = .mk nm a ws b ks) (m : Int) (h : m < 0 ∨ 20 < ws.length) : lftGo f (l.drop k) m = -1 := by
  rw [List.drop_eq_getElem_cons hk, he]
  exact if_pos h

set_option maxRecDepth 100000 in
theorem rLeftI_any (d : Nat) (hd : d ≤ 100) : ∀ (l : List NI) (v : Value) (S : Nat → Prop) (w : World) (M : Int), NsV S w v l → (∀ b, S b → b < w.heap.size) → l.length ≤ maxLen → LenL l → -1 ≤ M → M ≤ 1000000 →
    Calls Tryz.prog 10 #[v, .int .i64 M, .int .i64 d] w fun e w' => e = .returned (.int .i64 (lft d l M)) ∧ Below w.heap.size w w' := by
  induction d with
  | zero =>
    intro l v S w M hv hS hl hL hM1 hM2
    obtain ⟨ptr, cap, rfl, hl2⟩ := hv
    by_cases hp : 0 < l.length
    · have d1 : decide ((0 : Int) < (l.length : Int)) = true := decide_eq_true (by omega)
      have d2 : decide (0 < l.length) = true := decide_eq_true hp
      have e : lft 0 l M = -1 := by simp only [lft, if_pos hp]
      rw [e]
      clear hl2 hp e
      go_enter Tryz.func10, Tryz.ntmps10
      go_wp2_with fail
      refine bodyPost_ret (v := .int .i64 (-1)) (by simp [results, Tryz.results10, go_sem]) rfl ⟨rfl, Below.refl _ _⟩
    · have e0 : l = [] := List.eq_nil_of_length_eq_zero (by omega)
      subst e0
      have e : lft 0 [] M = M := by simp [lft]
      rw [e]
      clear hl2 hp e
      go_enter Tryz.func10, Tryz.ntmps10
      go_wp2_with fail
      refine wp_loop_rounds 1 ?_
      rw [rounds_succ]
      go_wp2_with fail
      refine bodyPost_ret (v := .int .i64 M) (by simp [results, Tryz.results10, go_sem]) rfl ⟨rfl, Below.refl _ _⟩
  | succ d ih =>
    intro l v S w M hv hS hl hL hM1 hM2
    have ih := ih (by omega)
    obtain ⟨ptr, cap, rfl, hl2⟩ := hv
    have HL := Lib.hid hl2
    have HLen := Lib.hid hL
    unfold maxLen at hl
    obtain ⟨D, hD⟩ : ∃ D : Int, ((d + 1 : Nat) : Int) = D := ⟨_, rfl⟩
    rw [hD]
    have hD1 : 1 ≤ D ∧ D ≤ 101 := by omega
    have d0 : (D == 0) = false := beq_eq_false_iff_ne.2 (by omega)
    have HD : Hid (D - 1 = (d : Int)) := Lib.hid (by omega)
    clear hD
    obtain ⟨R, hR⟩ : ∃ R, lft (d + 1) l M = R := ⟨_, rfl⟩
    rw [hR]
    have HR0 : Hid (lftGo (lft d) (l.drop 0) M = R) := Lib.hid (by rw [← hR]; rfl)
    clear hl2 hL hR
    go_enter Tryz.func10, Tryz.ntmps10
    go_wp2_with fail
    go_loopw [1, 18] (fun Q I wr => ∃ (k : Nat) (q : Int), k ≤ l.length ∧ I = .int .i64 k ∧ Q = .int .i64 q ∧ -1 ≤ q ∧ q ≤ M ∧ Hid (lftGo (lft d) (l.drop k) q = R) ∧ Below w.heap.size w wr) (fun _ I _ => l.length - (intOf I).toNat)
    case atStart => exact ⟨0, M, by omega, rfl, rfl, hM1, by omega, HR0, Below.refl _ _⟩
    case round =>
      clear HR0
      obtain ⟨k, q, hk, rfl, rfl, hq1, hq2, HR, B1⟩ := hrel
      by_cases hlt : k < l.length
      · obtain ⟨g, o, rfl, hf⟩ := HL.out.resolve_left (by intro e; rw [e] at hlt; simp at hlt)
        obtain ⟨nm, a, ws, b, ks, vw, vk, he, h0, x0, x1, x2, x3, x4, hw, hks⟩ := (hf.get k hlt).un
        have hst1 := drop_no (lft d) hlt he q
        have hst2 := drop_yes (lft d) hlt he q
        have hln := HLen.out.get k hlt
        rw [he] at hln
        obtain ⟨f1, f2, f3⟩ := hln
        have lg := hS g h0
        obtain ⟨kp, kc, rfl, hks⟩ := hks
        obtain ⟨wp, wc, rfl, -⟩ := hw
        replace x0 := (B1.cell (p := ⟨g, _, none⟩) lg).trans x0
        replace x1 := (B1.cell (p := ⟨g, _, none⟩) lg).trans x1
        replace x2 := (B1.cell (p := ⟨g, _, none⟩) lg).trans x2
        replace x3 := (B1.cell (p := ⟨g, _, none⟩) lg).trans x3
        replace x4 := (B1.cell (p := ⟨g, _, none⟩) lg).trans x4
        have lg' := Nat.lt_of_lt_of_le lg B1.size
        by_cases hq : q < 0 ∨ 20 < ws.length
        · have hst := hst2 hq
          rw [HR.out] at hst
          subst hst
          clear hst1 hst2
          clear hf h0 he hks f1 f2 f3 ih
          by_cases hq0 : q < 0
          · have dq : decide (q < 0) = true := decide_eq_true hq0
            go_wp2_with fail
            refine bodyPost_ret (v := .int .i64 (-1)) (by simp [results, Tryz.results10, go_sem]) rfl ⟨rfl, balloc B1 _⟩
          · have dq : decide (q < 0) = false := decide_eq_false hq0
            have dw : decide ((20 : Int) < (ws.length : Int)) = true := decide_eq_true (by omega)
            go_wp2_with fail
            refine bodyPost_ret (v := .int .i64 (-1)) (by simp [results, Tryz.results10, go_sem]) rfl ⟨rfl, balloc B1 _⟩
        · have hst := hst1 hq
          rw [HR.out] at hst
          clear hst1 hst2
          have dq : decide (q < 0) = false := decide_eq_false (by omega)
          have dw : decide ((20 : Int) < (ws.length : Int)) = false := decide_eq_false (by omega)
          have hbd := lft_bd d ks (q - 1) (by omega)
          have ck : ∀ W, Below w.heap.size w W → Calls Tryz.prog 10 #[.slice kp ks.length kc, .int .i64 (q - 1), .int .i64 (D - 1)] W fun e w' => e = .returned (.int .i64 (lft d ks (q - 1))) ∧ Below W.heap.size W w' := fun W hB => by
            rw [HD.out]
            exact ih ks _ S W (q - 1) (NsV.on (W := w) ⟨kp, kc, rfl, hks⟩ hS hB) (fun b hb => Nat.lt_of_lt_of_le (hS b hb) hB.size) f2 f3 (by omega) (by omega)
          obtain ⟨Q, hQ⟩ : ∃ Q, lft d ks (q - 1) = Q := ⟨_, rfl⟩
          simp only [hQ] at ck
          rw [hQ] at hst hbd
          have HS := Lib.hid hst.symm
          have ck := Lib.hid ck
          clear hf h0 he hks f1 f2 f3 ih hst hQ
          go_wp2_with fail
          refine (ck.out _ (balloc B1 _)).mono ?_
          rintro e w2 ⟨rfl, hb⟩
          have B2 := bthen (balloc B1 _) hb
          clear hb ck
          go_wp2_with fail
          go_roundw
          case rel =>
            exact ⟨k + 1, Q, by omega, by go_num, rfl, by omega, by omega, HS, B2⟩
          case measure => simp [intOf]; omega
      · obtain rfl : k = l.length := by omega
        have e : q = R := by rw [← HR.out, List.drop_length]; rfl
        subst e
        go_wp2_with fail
        refine bodyPost_ret (v := .int .i64 q) (by simp [results, Tryz.results10, go_sem]) rfl ⟨rfl, B1⟩

set_option maxRecDepth 100000 in
theorem rFewI_any (l : List NI) (v : Value) (S : Nat → Prop) (w : World) (M : Int) (r : Bool) (hv : NsV S w v l) (hS : ∀ b, S b → b < w.heap.size) (hl : l.length ≤ maxLen) (hL : LenL l) (h1 : -1 ≤ M) (h2 : M ≤ 1000000) (hr : Hid (decide (0 ≤ lft 12 l M) = r)) :
    Calls Tryz.prog 5 #[v, .int .i64 M] w fun e w' => e = .returned (.bool r) ∧ Below w.heap.size w w' := by
  have c := rLeftI_any 12 (by omega) l v S w M hv hS hl hL h1 h2
  obtain ⟨p, q, rfl, -⟩ := hv
  have hr := hr.out
  obtain ⟨Q, hQ⟩ : ∃ Q, lft 12 l M = Q := ⟨_, rfl⟩
  rw [hQ] at c hr
  clear hQ
  go_enter Tryz.func5, Tryz.ntmps5
  go_wp2_with fail
  refine c.mono ?_
  rintro e w2 ⟨rfl, hb⟩
  go_wp2_with fail
  go_ret
  exact ⟨rfl, hb⟩

end Go.Proofs.YtabhbcedldjjjaaGreatDoor.Yg
