/- TreeTells, walked. -/
import Derived.Test.YtjebdoecigmkhaaDoorYlive
import Derived.Test.YtjebdoecigmkhaaDoorFrameN
import Derived.Test.YtjebdoecigmkhaaDoorYchk
import Derived.Test.YtjebdoecigmkhaaDoorYrchk
import Derived.Test.YtjebdoecigmkhaaDoorYdeep2
import Derived.Test.YtjebdoecigmkhaaDoorYsame
import Derived.Test.YtjebdoecigmkhaaDoorYrsam2
import Derived.Test.YtjebdoecigmkhaaDoorYrleft
import Derived.Test.YtjebdoecigmkhaaDoorYnrow
namespace Go.Proofs.YtjebdoecigmkhaaDoor.Yl
set_option linter.unusedSimpArgs false
set_option linter.unusedVariables false
open Go.RowKit Go.Proofs.YtjebdoecigmkhaaDoor.Bn Go.Proofs.YtjebdoecigmkhaaDoor.Zm Go.Proofs.YtjebdoecigmkhaaDoor.Zr Go.Proofs.YtjebdoecigmkhaaDoor.Zp Go.Proofs.YtjebdoecigmkhaaDoor.Zk Go.Proofs.YtjebdoecigmkhaaDoor.Ym Go.Proofs.YtjebdoecigmkhaaDoor.Yp Go.Proofs.YtjebdoecigmkhaaDoor.Yg

set_option maxHeartbeats 2000000

set_option maxRecDepth 100000 in
theorem rCheckI (l : List NI) (v : Value) (S : Nat → Prop) (w : World) (hc : cntL l ≤ 100000) (hv : NsV S w v l) (hS : ∀ b, S b → b < w.heap.size) (hwf : WfL l) :
    Calls Tryd.prog 24 #[v] w fun e w' => e = .returned (.int .i64 (chkL 0 l : Nat)) ∧ Below w.heap.size w w' := by
  have c := rCheckI_any 1000000 (by omega) l v S w 0 (by omega) (by omega) hv hS hwf
  go_enter Tryd.func24, Tryd.ntmps24
  go_wp2_with fail
  refine c.mono ?_
  rintro e w2 ⟨rfl, hb⟩
  go_wp2_with fail
  go_ret
  exact ⟨rfl, hb⟩

set_option maxRecDepth 100000 in
theorem ttells_walk (a0 : Option Addr) (n0 c0 : Nat) (l : List NI) (a1 : Option Addr) (n1 c1 : Nat) (m : List NI) (w : World) (hl : ItemsOf w a0 n0 c0 l) (hm : ItemsOf w a1 n1 c1 m) (tb : Pows w) :
    Calls Tryd.prog 8 #[.slice a0 n0 c0, .slice a1 n1 c1] w fun e w' => e = .returned (.bool true) ∧ Below w.heap.size w w' := by
  have cl := fun w => ylive_ok w
  obtain ⟨e0, l1, l2, l3, l4⟩ := hl
  obtain ⟨e1, m1, m2, m3, m4⟩ := hm
  rw [e0] at l1
  rw [e1] at m1
  have sS : ∀ W, Below w.heap.size w W → ∀ b, b < w.heap.size → b < W.heap.size := fun W hB b hb => Nat.lt_of_lt_of_le hb hB.size
  have on_ : ∀ W v x, Below w.heap.size w W → NsV (· < w.heap.size) w v x → NsV (· < w.heap.size) W v x := fun W v x hB h => h.on (fun b hb => hb) hB
  obtain ⟨r0, hr0⟩ : ∃ r, decide (0 ≤ lft 12 l 40) = r := ⟨_, rfl⟩
  obtain ⟨r1, hr1⟩ : ∃ r, decide (0 ≤ lft 12 m 40) = r := ⟨_, rfl⟩
  have cf0 := fun W (hB : Below w.heap.size w W) => rFewI_any l (.slice a0 n0 c0) (· < w.heap.size) W 40 r0 (on_ W _ _ hB l4) (sS W hB) l1 l3 (by omega) (by omega) (Lib.hid hr0)
  have cf1 := fun W (hB : Below w.heap.size w W) => rFewI_any m (.slice a1 n1 c1) (· < w.heap.size) W 40 r1 (on_ W _ _ hB m4) (sS W hB) m1 m3 (by omega) (by omega) (Lib.hid hr1)
  cases r0 with
  | false =>
    have cf0 := Lib.hid cf0
    clear cf1 hr0 hr1 on_ sS l4 m4 l3 m3 l2 m2 e0 e1
    go_enter Tryd.func8, Tryd.ntmps8
    go_wp2_with fail
    refine (cl _).mono ?_
    rintro e w1 ⟨rfl, hb⟩
    go_wp2_with fail
    refine (cf0.out _ hb).mono ?_
    rintro e w2 ⟨rfl, hb2⟩
    have B := bthen hb hb2
    go_wp2_with fail
    go_ret
    exact ⟨rfl, B⟩
  | true =>
    cases r1 with
    | false =>
      have cf0 := Lib.hid cf0
      have cf1 := Lib.hid cf1
      clear hr0 hr1 on_ sS l4 m4 l3 m3 l2 m2 e0 e1
      go_enter Tryd.func8, Tryd.ntmps8
      go_wp2_with fail
      refine (cl _).mono ?_
      rintro e w1 ⟨rfl, hb⟩
      go_wp2_with fail
      refine (cf0.out _ hb).mono ?_
      rintro e w2 ⟨rfl, hb2⟩
      have B := bthen hb hb2
      clear hb hb2
      go_wp2_with fail
      refine (cf1.out _ B).mono ?_
      rintro e w3 ⟨rfl, hb3⟩
      replace B := bthen B hb3
      clear hb3
      go_wp2_with fail
      go_ret
      exact ⟨rfl, B⟩
    | true =>
      have f0 := lft_few 12 l 40 (of_decide_eq_true hr0)
      have hc : cntL l ≤ 40 := by
        have := of_decide_eq_true hr0
        omega
      have hws := f0.2.mono (b := 1000000) (by omega)
      obtain ⟨q, hq⟩ : ∃ q : Bool, q = true ↔ SameL l m := by
        by_cases h : SameL l m
        · exact ⟨true, by simp [h]⟩
        · exact ⟨false, by simp [h]⟩
      have k1 := Lib.hid (fun W (hB : Below w.heap.size w W) => Check_any l (.slice a0 n0 c0) (· < w.heap.size) W (by omega) (on_ W _ _ hB l4) (sS W hB) l2 (tb.kept hB))
      have k2 := Lib.hid (fun W (hB : Below w.heap.size w W) => rCheckI l (.slice a0 n0 c0) (· < w.heap.size) W (by omega) (on_ W _ _ hB l4) (sS W hB) l2)
      have k3 := Lib.hid (fun W (hB : Below w.heap.size w W) => pDeepI_any 1000 (by omega) l (.slice a0 n0 c0) (· < w.heap.size) W (by omega) (on_ W _ _ hB l4) (sS W hB))
      have k4 := Lib.hid (fun W (hB : Below w.heap.size w W) => rDeepI_any 1000 (by omega) l (.slice a0 n0 c0) (· < w.heap.size) W (by omega) (on_ W _ _ hB l4) (sS W hB))
      have k5 := Lib.hid (fun W (hB : Below w.heap.size w W) => Same_any 1000 (by omega) l m (.slice a0 n0 c0) (.slice a1 n1 c1) (· < w.heap.size) W q (by omega) hws (on_ W _ _ hB l4) (on_ W _ _ hB m4) (sS W hB) (Lib.hid hq))
      have k6 := Lib.hid (fun W (hB : Below w.heap.size w W) => rSameI_any 1000 (by omega) l m (.slice a0 n0 c0) (.slice a1 n1 c1) (· < w.heap.size) W q (by omega) hws (on_ W _ _ hB l4) (on_ W _ _ hB m4) (sS W hB) (Lib.hid hq))
      have k7 := Lib.hid (fun W (hB : Below w.heap.size w W) => Same_any 1000 (by omega) l l (.slice a0 n0 c0) (.slice a0 n0 c0) (· < w.heap.size) W true (by omega) hws (on_ W _ _ hB l4) (on_ W _ _ hB l4) (sS W hB) (Lib.hid ⟨fun _ => sameL_refl l, fun _ => rfl⟩))
      have cf0 := Lib.hid cf0
      have cf1 := Lib.hid cf1
      obtain ⟨E, hE⟩ : ∃ E : Int, ((chkL 0 l : Nat) : Int) = E := ⟨_, rfl⟩
      obtain ⟨D, hD⟩ : ∃ D : Int, ((dpL l : Nat) : Int) = D := ⟨_, rfl⟩
      rw [hE] at k1 k2
      rw [hD] at k3 k4
      clear hr0 hr1 on_ sS l4 m4 l3 m3 l2 m2 e0 e1 hq hws f0 hE hD
      go_enter Tryd.func8, Tryd.ntmps8
      go_wp2_with fail
      refine (cl _).mono ?_
      rintro e w1 ⟨rfl, hb⟩
      go_wp2_with fail
      refine (cf0.out _ hb).mono ?_
      rintro e w2 ⟨rfl, hb2⟩
      have B := bthen hb hb2
      clear hb hb2
      go_wp2_with fail
      refine (cf1.out _ B).mono ?_
      rintro e w3 ⟨rfl, hb3⟩
      replace B := bthen B hb3
      clear hb3
      go_wp2_with fail
      refine (k1.out _ B).mono ?_
      rintro e w4 ⟨rfl, hb4⟩
      replace B := bthen B hb4
      clear hb4
      go_wp2_with fail
      refine (k2.out _ B).mono ?_
      rintro e w5 ⟨rfl, hb5⟩
      replace B := bthen B hb5
      clear hb5
      go_wp2_with fail
      refine (k3.out _ B).mono ?_
      rintro e w6 ⟨rfl, hb6⟩
      replace B := bthen B hb6
      clear hb6
      go_wp2_with fail
      refine (k4.out _ B).mono ?_
      rintro e w7 ⟨rfl, hb7⟩
      replace B := bthen B hb7
      clear hb7
      go_wp2_with fail
      refine (k5.out _ B).mono ?_
      rintro e w8 ⟨rfl, hb8⟩
      replace B := bthen B hb8
      clear hb8
      go_wp2_with fail
      refine (k6.out _ B).mono ?_
      rintro e w9 ⟨rfl, hb9⟩
      replace B := bthen B hb9
      clear hb9
      go_wp2_with fail
      refine (k7.out _ B).mono ?_
      rintro e w10 ⟨rfl, hb10⟩
      replace B := bthen B hb10
      clear hb10
      go_wp2_with fail
      go_ret
      exact ⟨rfl, B⟩

end Go.Proofs.YtjebdoecigmkhaaDoor.Yl
