/- LayoutBack, walked. -/
import Derived.Test.YtjebdoecigmkhaaDoorYocan
import Derived.Test.YtjebdoecigmkhaaDoorFrameN
import Derived.Test.YtjebdoecigmkhaaDoorYrleft
import Derived.Test.YtjebdoecigmkhaaDoorYrfew
namespace Go.Proofs.YtjebdoecigmkhaaDoor.Yl
set_option linter.unusedSimpArgs false
set_option linter.unusedVariables false
open Go Go.RowKit Go.Proofs.YtjebdoecigmkhaaDoor.Zm Go.Proofs.YtjebdoecigmkhaaDoor.Ym Go.Proofs.YtjebdoecigmkhaaDoor.Bn Go.Proofs.YtjebdoecigmkhaaDoor.Zp Go.Proofs.YtjebdoecigmkhaaDoor.Zk Go.Proofs.YtjebdoecigmkhaaDoor.Yp Go.Proofs.YtjebdoecigmkhaaDoor.Zr Go.Proofs.YtjebdoecigmkhaaDoor.Yg
open Go.Proofs.YtjebdoecigmkhaaDoor.Yr (rFew_any)

set_option maxHeartbeats 2000000

mutual
theorem sameN_symm : ∀ n m : NI, SameN n m → SameN m n
  | .mk nm a ws b ks, .mk nm' a' ws' b' ks', h => by
    obtain ⟨h1, h2, h3, h4⟩ := h
    exact ⟨h1.symm, h2.symm, h3.symm, sameL_symm ks ks' h4⟩
theorem sameL_symm : ∀ l m : List NI, SameL l m → SameL m l
  | [], m, h => by
    have : m = [] := by simpa [SameL] using h
    subst this; simp [SameL]
  | n :: l, m, h => by
    simp only [SameL] at h
    obtain ⟨x, k, rfl, h1, h2⟩ := h
    simp only [SameL]
    exact ⟨n, l, rfl, sameN_symm n x h1, sameL_symm l k h2⟩
end
mutual
theorem sameN_trans : ∀ n m k : NI, SameN n m → SameN m k → SameN n k
  | .mk _ _ _ _ ks, .mk _ _ _ _ ks', .mk _ _ _ _ ks'', h, j => by
    obtain ⟨h1, h2, h3, h4⟩ := h
    obtain ⟨j1, j2, j3, j4⟩ := j
    exact ⟨h1.trans j1, h2.trans j2, h3.trans j3, sameL_trans ks ks' ks'' h4 j4⟩
theorem sameL_trans : ∀ l m k : List NI, SameL l m → SameL m k → SameL l k
  | [], m, k, h, j => by
    have : m = [] := by simpa [SameL] using h
    subst this; exact j
  | n :: l, m, k, h, j => by
    simp only [SameL] at h
    obtain ⟨x, m', rfl, h1, h2⟩ := h
    simp only [SameL] at j
    obtain ⟨y, k', rfl, j1, j2⟩ := j
    simp only [SameL]
    exact ⟨y, k', rfl, sameN_trans n x y h1 j1, sameL_trans l m' k' h2 j2⟩
end
/-- items that may be, written, and read again -/
theorem back_all {l : List NI} (hc : cntL l ≤ 60) (hws : WsL 20 l) (h0 : chkL 0 l = 0) : ∃ (t : ByteArray) (m : List Nd), printI l = (t, 0) ∧ t.size ≤ 65536 ∧ parseR t = .ok m ∧ RightL 0 m ∧ countL m ≤ 60 ∧ SameL (embL m) l := by
  obtain ⟨hr, hs⟩ := chk_rightL 0 l (by omega) h0
  have htk := tk_fewL l 20 hws
  have hfl := tk_flatL l 0 hr
  have hlen := prtL_len 0 (by omega) (toL l) hr
  rw [cnt_toL] at hlen
  obtain ⟨m, q1, q2⟩ := parse_print hr (by omega)
  have hsz : (⟨(prtL 0 (toL l)).toArray⟩ : ByteArray).size = (prtL 0 (toL l)).length := by simp [ByteArray.size]
  have hby : by_ ⟨(prtL 0 (toL l)).toArray⟩ = prtL 0 (toL l) := by simp [by_]
  have hp : parseR ⟨(prtL 0 (toL l)).toArray⟩ = .ok m := by rw [parseR, if_neg (by rw [hsz]; omega), hby, q2]
  obtain ⟨a, ha⟩ := parseR_cut_ok hp
  obtain ⟨_, hcut⟩ := cutR_ok ha
  rw [hby] at hcut
  obtain ⟨p1, _⟩ := parse_right q2 hcut
  refine ⟨_, m, by rw [printI, if_neg (by rw [h0]; decide), if_neg (by omega), if_neg (by omega)], by rw [hsz]; omega, hp, p1, by rw [eq_countL _ _ q1, cnt_toL]; exact hc, ?_⟩
  exact sameL_symm _ _ (sameL_trans _ _ _ hs (eqL_same _ _ q1))

set_option maxRecDepth 100000 in
theorem back_walk (a0 : Option Addr) (n0 c0 : Nat) (l : List NI) (w : World) (hl : ItemsOf w a0 n0 c0 l) (tb : Pows w) :
    Calls Tryd.prog 13 #[.slice a0 n0 c0] w fun e w' => e = .returned (.bool true) ∧ Below w.heap.size w w' := by
  have cl := yolive_ok w tb
  obtain ⟨e0, l1, l2, l3, l4⟩ := hl
  rw [e0] at l1
  have sS : ∀ W, Below w.heap.size w W → ∀ b, b < w.heap.size → b < W.heap.size := fun W hB b hb => Nat.lt_of_lt_of_le hb hB.size
  have on_ : ∀ W v x, Below w.heap.size w W → NsV (· < w.heap.size) w v x → NsV (· < w.heap.size) W v x := fun W v x hB h => h.on (fun b hb => hb) hB
  obtain ⟨r0, hr0⟩ : ∃ r, decide (0 ≤ lft 12 l 60) = r := ⟨_, rfl⟩
  have cf0 := fun W (hB : Below w.heap.size w W) => rFewI_any l (.slice a0 n0 c0) (· < w.heap.size) W 60 r0 (on_ W _ _ hB l4) (sS W hB) l1 l3 (by omega) (by omega) (Lib.hid hr0)
  have cf0 := Lib.hid cf0
  cases r0 with
  | false =>
    clear hr0 on_ sS l4 l3 l2 e0
    go_enter Tryd.func13, Tryd.ntmps13
    go_wp2_with fail
    refine cl.mono ?_
    rintro e w1 ⟨rfl, hb⟩
    go_wp2_with fail
    refine (cf0.out _ hb).mono ?_
    rintro e w2 ⟨rfl, hb2⟩
    have B := bthen hb hb2
    go_wp2_with fail
    go_ret
    exact ⟨rfl, B⟩
  | true =>
    have f0 := lft_few 12 l 60 (of_decide_eq_true hr0)
    have hc : cntL l ≤ 60 := by
      have := of_decide_eq_true hr0
      omega
    have hws20 := f0.2
    have hws := f0.2.mono (b := 1000000) (by omega)
    obtain ⟨E, hE⟩ : ∃ E, chkL 0 l = E := ⟨_, rfl⟩
    by_cases h0 : E = 0
    · subst h0
      obtain ⟨t, m, b1, b2, b3, b4, b5, b6⟩ := back_all hc hws20 hE
      have hts : t.size ≤ maxLen := by unfold maxLen; omega
      have kp := Lib.hid (fun W (hB : Below w.heap.size w W) => Print_any l (.slice a0 n0 c0) (· < w.heap.size) W (t, 0) (by omega) hws l2 (on_ W _ _ hB l4) (sS W hB) (tb.kept hB) (Lib.hid b1))
      have kq := Lib.hid (fun W => Parse_any t W (.ok m) hts (Lib.hid b3))
      have kl := Lib.hid (fun W (hB : Below w.heap.size w W) => on_ W _ _ hB l4)
      have hb4 := Lib.hid b4
      have hb6 := Lib.hid b6
      have HW8 := Lib.hid (ws_embL 0 m b4)
      have hcm : cntL (embL m) < 1000 := by rw [cnt_embL]; omega
      clear hr0 on_ sS l4 l3 l2 e0 hws hws20 f0 b1 b3 b4 b6 hE hts
      go_enter Tryd.func13, Tryd.ntmps13
      go_wp2_with fail
      refine cl.mono ?_
      rintro e w1 ⟨rfl, hb⟩
      go_wp2_with fail
      refine (cf0.out _ hb).mono ?_
      rintro e w2 ⟨rfl, hb2⟩
      have B2 := bthen hb hb2
      go_wp2_with fail
      refine (kp.out _ B2).mono ?_
      rintro e w3 ⟨rfl, hb3⟩
      have B3 := bthen B2 hb3
      clear hb hb2 hb3 B2
      go_wp2_with fail
      refine (kq.out _).mono ?_
      rintro e w4 ⟨v, S, rfl, hB4, hN, hS⟩
      have B4 := bthen B3 hB4
      have cfm := rFew_any m v S w4 60 hN (fun b hb => (hS b hb).2) hb4.out (by omega) (by omega)
      clear hB4 B3
      go_wp2_with fail
      refine cfm.mono ?_
      rintro e w5 ⟨rfl, hB5⟩
      have B5 := bthen B4 hB5
      have hN5 : NdsV (· < w5.heap.size) w5 v m := (hN.kept ((Stay.below hB5).mono (fun b hb => (hS b hb).2))).mono (fun b hb => Nat.lt_of_lt_of_le (hS b hb).2 hB5.size)
      have hl5 : NsV (· < w5.heap.size) w5 (.slice a0 n0 c0) l := (kl.out _ B5).mono (fun b hb => Nat.lt_of_lt_of_le hb B5.size)
      have csm := Same_any 1000 (by omega) (embL m) l v (.slice a0 n0 c0) (· < w5.heap.size) w5 true hcm HW8.out (nsV_emb hN5) hl5 (fun b hb => hb) (Lib.hid ⟨fun _ => hb6.out, fun _ => rfl⟩)
      clear cfm hN hS hB5 B4 hN5 hl5
      go_wp2_with fail
      refine csm.mono ?_
      rintro e w6 ⟨rfl, hB6⟩
      have B6 := bthen B5 hB6
      clear csm
      go_wp2_with fail
      go_ret
      exact ⟨rfl, B6⟩
    · have d3 : ((E : Int) != 0) = true := by
        have : ((E : Int) == 0) = false := beq_eq_false_iff_ne.2 (by omega)
        simp [bne, this]
      have hpr : printI l = (⟨#[]⟩, E) := by rw [printI, if_pos (by rw [hE]; exact h0), hE]
      have kp := Lib.hid (fun W (hB : Below w.heap.size w W) => Print_any l (.slice a0 n0 c0) (· < w.heap.size) W (⟨#[]⟩, E) (by omega) hws l2 (on_ W _ _ hB l4) (sS W hB) (tb.kept hB) (Lib.hid hpr))
      have kc := fun W (hB : Below w.heap.size w W) => Check_any l (.slice a0 n0 c0) (· < w.heap.size) W (by omega) (on_ W _ _ hB l4) (sS W hB) l2 (tb.kept hB)
      rw [hE] at kc
      have kc := Lib.hid kc
      clear hr0 on_ sS l4 l3 l2 e0 hws hws20 f0 hE hpr
      go_enter Tryd.func13, Tryd.ntmps13
      go_wp2_with fail
      refine cl.mono ?_
      rintro e w1 ⟨rfl, hb⟩
      go_wp2_with fail
      refine (cf0.out _ hb).mono ?_
      rintro e w2 ⟨rfl, hb2⟩
      have B2 := bthen hb hb2
      go_wp2_with fail
      refine (kp.out _ B2).mono ?_
      rintro e w3 ⟨rfl, hb3⟩
      have B3 := bthen B2 hb3
      clear hb hb2 hb3 B2
      go_wp2_with fail
      refine (kc.out _ B3).mono ?_
      rintro e w4 ⟨rfl, hb4⟩
      have B4 := bthen B3 hb4
      go_wp2_with fail
      go_ret
      exact ⟨rfl, B4⟩

end Go.Proofs.YtjebdoecigmkhaaDoor.Yl
