/- TreeRight, walked. -/
import Derived.Test.YtjebdoecigmkhaaDoorYlive
import Derived.Test.YtjebdoecigmkhaaDoorYpure
import Derived.Test.YtjebdoecigmkhaaDoorYchk
import Derived.Test.YtjebdoecigmkhaaDoorYpdeep
import Derived.Test.YtjebdoecigmkhaaDoorYrfew
namespace Go.Proofs.YtjebdoecigmkhaaDoor.Yl
set_option linter.unusedSimpArgs false
set_option linter.unusedVariables false
open Go.RowKit Go.Proofs.YtjebdoecigmkhaaDoor.Bn Go.Proofs.YtjebdoecigmkhaaDoor.Zm Go.Proofs.YtjebdoecigmkhaaDoor.Zr Go.Proofs.YtjebdoecigmkhaaDoor.Zp Go.Proofs.YtjebdoecigmkhaaDoor.Zk Go.Proofs.YtjebdoecigmkhaaDoor.Ym Go.Proofs.YtjebdoecigmkhaaDoor.Yp Go.Proofs.YtjebdoecigmkhaaDoor.Yr Go.Proofs.YtjebdoecigmkhaaDoor.Yg

set_option maxHeartbeats 2000000

set_option maxRecDepth 100000 in
theorem tright_walk (s : ByteArray) (w : World) (hm : s.size ≤ maxLen) (tb : Pows w) : Calls Tryd.prog 4 #[.string s] w fun e w' => e = .returned (.bool true) ∧ Below w.heap.size w w' := by
  have cl := fun w => ylive_ok w
  have hm' := hm
  unfold maxLen at hm
  by_cases h4 : 400 < s.size
  · have d1 : decide ((400 : Int) < (s.size : Int)) = true := decide_eq_true (by omega)
    clear h4
    go_enter Tryd.func4, Tryd.ntmps4
    go_wp2_with fail
    refine (cl _).mono ?_
    rintro e w1 ⟨rfl, hb⟩
    go_wp2_with fail
    go_ret
    exact ⟨rfl, hb⟩
  have d1 : decide ((400 : Int) < (s.size : Int)) = false := decide_eq_false (by omega)
  have hs4 : s.size ≤ 400 := by omega
  clear h4
  obtain ⟨C, hC⟩ : ∃ C, cutR s = C := ⟨_, rfl⟩
  obtain ⟨R, hR⟩ : ∃ R, parseR s = R := ⟨_, rfl⟩
  have cc := fun w => Cut_any s w C hm' (Lib.hid hC)
  have cp := fun w => Parse_any s w R hm' (Lib.hid hR)
  cases C with
  | error y =>
    obtain ⟨er, q⟩ := y
    obtain rfl : R = .error (er, q) := by rw [← hR, parseR_cut hC]
    have d3 : ((er : Int) != 0) = true := by rcases cut_er hC with rfl | rfl <;> rfl
    clear hC hR hm'
    go_enter Tryd.func4, Tryd.ntmps4
    go_wp2_with fail
    refine (cl _).mono ?_
    rintro e w1 ⟨rfl, hb⟩
    go_wp2_with fail
    refine (cp _).mono ?_
    rintro e w2 ⟨rfl, hb2⟩
    go_wp2_with fail
    refine (cc _).mono ?_
    rintro e w3 ⟨rfl, hb3⟩
    have B := bthen (bthen hb hb2) hb3
    go_wp2_with fail
    go_ret
    exact ⟨rfl, B⟩
  | ok a =>
    obtain ⟨hsz, hcut⟩ := cutR_ok hC
    cases R with
    | error x =>
      obtain ⟨er, q⟩ := x
      have d3 : ((er : Int) != 0) = true := by rcases parseR_er hR with rfl | rfl | rfl <;> rfl
      clear hC hR hm' hsz hcut
      go_enter Tryd.func4, Tryd.ntmps4
      go_wp2_with fail
      refine (cl _).mono ?_
      rintro e w1 ⟨rfl, hb⟩
      go_wp2_with fail
      refine (cp _).mono ?_
      rintro e w2 ⟨rfl, hb2⟩
      go_wp2_with fail
      refine (cc _).mono ?_
      rintro e w3 ⟨v, rfl, hO⟩
      have B := bthen (bthen hb hb2) hO.below
      clear hO
      go_wp2_with fail
      go_ret
      exact ⟨rfl, B⟩
    | ok l =>
      have hp : parse (by_ s) = .ok l := by rw [← hR, parseR_small (by omega)]
      obtain ⟨p1, p2, p3, p4, p5⟩ := parse_right hp hcut
      rw [by_len] at p5
      have hcnt : countL l < 1000 := by omega
      have hchk := chk_embL 0 l p1
      have hwf := wf_embL 0 l p1
      have d6 : decide ((deepL l : Int) ≤ 6) = true := decide_eq_true (by omega)
      have d6' : decide (deepL l ≤ 6) = true := decide_eq_true (by omega)
      have hce : cntL (embL l) ≤ 100000 := by rw [cnt_embL]; omega
      clear hR hC hm' hp hcut hsz p2 p3
      go_enter Tryd.func4, Tryd.ntmps4
      go_wp2_with fail
      refine (cl _).mono ?_
      rintro e w1 ⟨rfl, hb⟩
      go_wp2_with fail
      refine (cp _).mono ?_
      rintro e w2 ⟨v, S, rfl, hb2, hN, hS⟩
      go_wp2_with fail
      refine (cc _).mono ?_
      rintro e w3 ⟨u, rfl, hO⟩
      have B := bthen (bthen hb hb2) hO.below
      have N3 : NdsV S w3 v l := hN.kept ((Stay.below hO.below).mono (fun b hb => (hS b hb).2))
      have S3 : ∀ b, S b → b < w3.heap.size := fun b hb => Nat.lt_of_lt_of_le (hS b hb).2 hO.below.size
      clear hO hN hS hb hb2 cl cp cc
      go_wp2_with fail
      refine (rFew_any l v S _ 400 N3 S3 p1 (by omega) (by omega)).mono ?_
      rintro e w4 ⟨rfl, hb4⟩
      have N4 : NdsV S w4 v l := N3.kept ((Stay.below hb4).mono (fun b hb => S3 b hb))
      have S4 : ∀ b, S b → b < w4.heap.size := fun b hb => Nat.lt_of_lt_of_le (S3 b hb) hb4.size
      replace B := bthen B hb4
      clear N3 S3 hb4
      go_wp2_with fail
      refine (Check_any (embL l) v S _ hce (nsV_emb N4) S4 hwf (tb.kept B)).mono ?_
      rintro e w5 ⟨rfl, hb5⟩
      rw [hchk]
      have N5 : NdsV S w5 v l := N4.kept ((Stay.below hb5).mono (fun b hb => S4 b hb))
      have S5 : ∀ b, S b → b < w5.heap.size := fun b hb => Nat.lt_of_lt_of_le (S4 b hb) hb5.size
      replace B := bthen B hb5
      clear N4 S4 hb5
      go_wp2_with fail
      refine (pDeep_any 1000 (by omega) l v S _ hcnt N5 S5).mono ?_
      rintro e w6 ⟨rfl, hb6⟩
      replace B := bthen B hb6
      clear N5 S5 hb6
      go_wp2_with fail
      go_ret
      exact ⟨rfl, B⟩

end Go.Proofs.YtjebdoecigmkhaaDoor.Yl
