/- TreeTokens, walked. -/
import Derived.Test.YtjebdoecigmkhaaDoorYlive
import Derived.Test.YtjebdoecigmkhaaDoorYflat
import Derived.Test.YtjebdoecigmkhaaDoorYpure
namespace Go.Proofs.YtjebdoecigmkhaaDoor.Yl
set_option linter.unusedSimpArgs false
set_option linter.unusedVariables false
open Go.RowKit Go.Proofs.YtjebdoecigmkhaaDoor.Bn Go.Proofs.YtjebdoecigmkhaaDoor.Zm Go.Proofs.YtjebdoecigmkhaaDoor.Zr Go.Proofs.YtjebdoecigmkhaaDoor.Zp Go.Proofs.YtjebdoecigmkhaaDoor.Zk Go.Proofs.YtjebdoecigmkhaaDoor.Ym Go.Proofs.YtjebdoecigmkhaaDoor.Yp Go.Proofs.YtjebdoecigmkhaaDoor.Yr

set_option maxHeartbeats 2000000

set_option maxRecDepth 100000 in
theorem ttoks_walk (s : ByteArray) (w : World) (hm : s.size ≤ maxLen) (tb : True) : Calls Tryd.prog 3 #[.string s] w fun e w' => e = .returned (.bool true) ∧ Below w.heap.size w w' := by
  have cl := fun w => ylive_ok w
  have hm' := hm
  unfold maxLen at hm
  by_cases h4 : 400 < s.size
  · have d1 : decide ((400 : Int) < (s.size : Int)) = true := decide_eq_true (by omega)
    clear h4
    go_enter Tryd.func3, Tryd.ntmps3
    go_wp2_with fail
    refine (cl _).mono ?_
    rintro e w1 ⟨rfl, hb⟩
    go_wp2_with fail
    go_ret
    exact ⟨rfl, hb⟩
  have d1 : decide ((400 : Int) < (s.size : Int)) = false := decide_eq_false (by omega)
  have hs4 : s.size ≤ 400 := by omega
  clear h4
  obtain ⟨R, hR⟩ : ∃ R, parseR s = R := ⟨_, rfl⟩
  have cp := fun w => Parse_any s w R hm' (Lib.hid hR)
  cases R with
  | error x =>
    obtain ⟨er, q⟩ := x
    have d3 : ((er : Int) != 0) = true := by rcases parseR_er hR with rfl | rfl | rfl <;> rfl
    have hq : q ≤ s.size := by
      rw [parseR_small (by omega)] at hR
      have := parse_at hR
      rwa [by_len] at this
    have dq : decide ((q : Int) ≤ (s.size : Int)) = true := decide_eq_true (by omega)
    clear hR hm'
    go_enter Tryd.func3, Tryd.ntmps3
    go_wp2_with fail
    refine (cl _).mono ?_
    rintro e w1 ⟨rfl, hb⟩
    go_wp2_with fail
    refine (cp _).mono ?_
    rintro e w2 ⟨rfl, hb2⟩
    have B := bthen hb hb2
    go_wp2_with fail
    go_ret
    exact ⟨rfl, B⟩
  | ok l =>
    obtain ⟨a, ha⟩ := parseR_cut_ok hR
    have cc := fun w => Cut_any s w (.ok a) hm' (Lib.hid ha)
    obtain ⟨hsz, hcut⟩ := cutR_ok ha
    have hp : parse (by_ s) = .ok l := by rw [← hR, parseR_small (by omega)]
    obtain ⟨p1, p2, p3, p4, p5⟩ := parse_right hp hcut
    rw [by_len] at p5
    have hfl : (flatL l).length ≤ 100000 := by rw [p2]; simp; omega
    have hcnt : countL l < 1000 := by omega
    have hbare : (tkl l).map bare = a.map bare := by
      rw [tkl, List.map_map, p2]
      simp [Function.comp_def, tk0, bare]
    have HB := Lib.hid (bare_tk hbare)
    clear hR hm' hp hcut ha hsz hbare p2 p3
    go_enter Tryd.func3, Tryd.ntmps3
    go_wp2_with fail
    refine (cl _).mono ?_
    rintro e w1 ⟨rfl, hb⟩
    go_wp2_with fail
    refine (cp _).mono ?_
    rintro e w2 ⟨v, S, rfl, hb2, hN, hS⟩
    go_wp2_with fail
    refine (cc _).mono ?_
    rintro e w3 ⟨u, rfl, hO⟩
    have T := TokAt.of_own hO
    have B := bthen (bthen hb hb2) hO.below
    have N3 : NdsV S w3 v l := hN.kept ((Stay.below hO.below).mono (fun b hb => (hS b hb).2))
    have S3 : ∀ b, S b → b < w3.heap.size := fun b hb => Nat.lt_of_lt_of_le (hS b hb).2 hO.below.size
    clear hO hN hS hb hb2 cl cp cc
    go_wp2_with fail
    refine (rFew_any l v S _ 400 N3 S3 p1 (by omega) (by omega)).mono ?_
    rintro e w4 ⟨rfl, hb4⟩
    have T4 := T.kept hb4
    have N4 : NdsV S w4 v l := N3.kept ((Stay.below hb4).mono (fun b hb => S3 b hb))
    have S4 : ∀ b, S b → b < w4.heap.size := fun b hb => Nat.lt_of_lt_of_le (S3 b hb) hb4.size
    replace B := bthen B hb4
    clear T N3 S3 hb4
    go_wp2_with fail
    refine (flat_any 1000 (by omega) l v S _ hcnt hfl N4 S4).mono ?_
    rintro e w5 ⟨u5, rfl, hO5⟩
    have T5 := T4.kept hO5.below
    have TF := TokAt.of_own hO5
    replace B := bthen B hO5.below
    clear T4 N4 S4 hO5
    go_wp2_with fail
    refine (rSame_any u5 u (tkl l).length a.length _ _ true _ TF T5 (by rw [tkl_len]; omega) (by omega) (Lib.hid ⟨fun _ => HB.out, fun _ => rfl⟩)).mono ?_
    rintro e w6 ⟨rfl, hb6⟩
    replace B := bthen B hb6
    clear TF T5 hb6 HB
    go_wp2_with fail
    go_ret
    exact ⟨rfl, B⟩

end Go.Proofs.YtjebdoecigmkhaaDoor.Yl
