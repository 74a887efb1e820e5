/- TreeDoes, walked. -/
import Derived.Test.YtjebdoecigmkhaaDoorYlive
import Derived.Test.YtjebdoecigmkhaaDoorYpure
import Derived.Test.YtjebdoecigmkhaaDoorYerp
import Derived.Test.YtjebdoecigmkhaaDoorYerx
namespace Go.Proofs.YtjebdoecigmkhaaDoor.Yl
set_option linter.unusedSimpArgs false
set_option linter.unusedVariables false
open Go.RowKit Go.Proofs.YtjebdoecigmkhaaDoor.Bn Go.Proofs.YtjebdoecigmkhaaDoor.Zm Go.Proofs.YtjebdoecigmkhaaDoor.Zr Go.Proofs.YtjebdoecigmkhaaDoor.Zp Go.Proofs.YtjebdoecigmkhaaDoor.Zk Go.Proofs.YtjebdoecigmkhaaDoor.Ym Go.Proofs.YtjebdoecigmkhaaDoor.Yp Go.Proofs.YtjebdoecigmkhaaDoor.Yr Go.Proofs.YtjebdoecigmkhaaDoor.Ye

set_option maxHeartbeats 2000000

set_option maxRecDepth 100000 in
theorem tdoes_walk (s : ByteArray) (w : World) (hm : s.size ≤ maxLen) (tb : True) : Calls Tryd.prog 9 #[.string s] w fun e w' => e = .returned (.bool true) ∧ Below w.heap.size w w' := by
  have cl := fun w => ylive_ok w
  have hm' := hm
  unfold maxLen at hm
  by_cases h4 : 400 < s.size
  · have d1 : decide ((400 : Int) < (s.size : Int)) = true := decide_eq_true (by omega)
    clear h4
    go_enter Tryd.func9, Tryd.ntmps9
    go_wp2_with fail
    refine (cl _).mono ?_
    rintro e w1 ⟨rfl, hb⟩
    go_wp2_with fail
    go_ret
    exact ⟨rfl, hb⟩
  have d1 : decide ((400 : Int) < (s.size : Int)) = false := decide_eq_false (by omega)
  have hs4 : s.size ≤ 400 := by omega
  clear h4
  obtain ⟨R, hR⟩ : ∃ R, parseR s = R := ⟨_, rfl⟩
  have cp := fun w => Parse_any s w R hm' (Lib.hid hR)
  have cr := fun w => rParse_any s w R hm' (Lib.hid hR)
  cases R with
  | error x =>
    obtain ⟨er, q⟩ := x
    have cx := fun w => rexact_any 10 (by omega) [] (.slice none 0 0) (.slice none 0 0) (fun _ => False) w 0 (by simp [countL]) ⟨none, 0, rfl, .inl rfl⟩ ⟨none, 0, rfl, .inl rfl⟩ (fun _ h => h.elim) (by simp [RightL])
    clear hR hm'
    go_enter Tryd.func9, Tryd.ntmps9
    go_wp2_with fail
    refine (cl _).mono ?_
    rintro e w1 ⟨rfl, hb⟩
    go_wp2_with fail
    refine (cp _).mono ?_
    rintro e w2 ⟨rfl, hb2⟩
    go_wp2_with fail
    refine (cr _).mono ?_
    rintro e w3 ⟨rfl, hb3⟩
    go_wp2_with fail
    refine (cx _).mono ?_
    rintro e w4 ⟨rfl, hb4⟩
    have B := bthen (bthen (bthen hb hb2) hb3) hb4
    go_wp2_with fail
    go_ret
    exact ⟨rfl, B⟩
  | ok l =>
    obtain ⟨ta, hta⟩ := parseR_cut_ok hR
    have hR' : parse (by_ s) = .ok l := by rw [← hR, parseR_small (by omega)]
    obtain ⟨pa1, _, _, pa4, pa5⟩ := parse_right hR' (cutR_ok hta).2
    rw [by_len] at pa5
    have hcl : countL l < 1000 := by omega
    have HR := Lib.hid pa1
    clear hR hm' hR' hta pa1 pa4 pa5
    go_enter Tryd.func9, Tryd.ntmps9
    go_wp2_with fail
    refine (cl _).mono ?_
    rintro e w1 ⟨rfl, hb⟩
    go_wp2_with fail
    refine (cp _).mono ?_
    rintro e w2 ⟨v, S, rfl, hb2, hv, hS⟩
    go_wp2_with fail
    refine (cr _).mono ?_
    rintro e w3 ⟨u, S2, rfl, hb3, hu, hS2⟩
    have sz := hb3.size
    have cx := rexact_any 1000 (by omega) l v u (· < w3.heap.size) w3 0 hcl ((hv.kept ((Stay.below hb3).mono (fun b hb => (hS b hb).2))).mono (fun b hb => Nat.lt_of_lt_of_le (hS b hb).2 sz)) (hu.mono (fun b hb => (hS2 b hb).2)) (fun b hb => hb) HR.out
    have B3 := bthen (bthen hb hb2) hb3
    clear hv hu hS hS2 hb hb2 hb3
    go_wp2_with fail
    refine cx.mono ?_
    rintro e w4 ⟨rfl, hb4⟩
    have B := bthen B3 hb4
    go_wp2_with fail
    go_ret
    exact ⟨rfl, B⟩

end Go.Proofs.YtjebdoecigmkhaaDoor.Yl
