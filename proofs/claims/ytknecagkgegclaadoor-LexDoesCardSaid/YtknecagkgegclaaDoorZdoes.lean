/- LexDoes, walked. -/
import Derived.Test.YtknecagkgegclaaDoorZref3
import Derived.Test.YtknecagkgegclaaDoorZahead
import Derived.Test.YtknecagkgegclaaDoorZtok
namespace Go.Proofs.YtknecagkgegclaaDoor.Zl
set_option linter.unusedSimpArgs false
set_option linter.unusedVariables false
open Go.RowKit Go.Proofs.YtknecagkgegclaaDoor.Zm Go.Proofs.YtknecagkgegclaaDoor.Zr Go.Proofs.YtknecagkgegclaaDoor.Zp Go.Proofs.YtknecagkgegclaaDoor.Zk Go.Proofs.YtknecagkgegclaaDoor.Bn

set_option maxHeartbeats 1000000

theorem nil_tok (W : World) : TokAt W (.slice none 0 0) 0 (fun _ => ⟨0, 0, 0, ⟨#[]⟩⟩) := ⟨none, 0, rfl, .inl rfl⟩

set_option maxRecDepth 100000 in
theorem does_walk (s : ByteArray) (w : World) (hm : s.size ≤ maxLen) (tb : True) : Calls Tryd.prog 3 #[.string s] w fun e w' => e = .returned (.bool true) ∧ Below w.heap.size w w' := by
  have cl := fun w => zlive_ok w
  have hm' := hm
  unfold maxLen at hm
  by_cases hs1 : 400 < s.size ∧ s.size ≤ 65536
  · obtain ⟨h1, h2⟩ := hs1
    have d1 : decide ((400 : Int) < (s.size : Int)) = true := decide_eq_true (by omega)
    have d2 : decide ((s.size : Int) ≤ 65536) = true := decide_eq_true (by omega)
    clear h1 h2
    go_enter Tryd.func3, Tryd.ntmps3
    go_wp2_with fail
    refine (cl _).mono ?_
    rintro e w1 ⟨rfl, hb⟩
    go_wp2_with fail
    go_ret
    exact ⟨rfl, hb⟩
  by_cases hs2 : 65540 < s.size
  · have d1 : decide ((400 : Int) < (s.size : Int)) = true := decide_eq_true (by omega)
    have d2 : decide ((s.size : Int) ≤ 65536) = false := decide_eq_false (by omega)
    have d3 : decide ((65540 : Int) < (s.size : Int)) = true := decide_eq_true (by omega)
    clear hs1 hs2
    go_enter Tryd.func3, Tryd.ntmps3
    go_wp2_with fail
    refine (cl _).mono ?_
    rintro e w1 ⟨rfl, hb⟩
    go_wp2_with fail
    go_ret
    exact ⟨rfl, hb⟩
  have d3 : decide ((65540 : Int) < (s.size : Int)) = false := decide_eq_false (by omega)
  obtain ⟨x1, d1⟩ : ∃ x : Bool, decide ((400 : Int) < (s.size : Int)) = x := ⟨_, rfl⟩
  obtain ⟨x2, d2⟩ : ∃ x : Bool, decide ((s.size : Int) ≤ 65536) = x := ⟨_, rfl⟩
  have hx : x1 = false ∨ (x1 = true ∧ x2 = false) := by
    cases x1 with
    | false => exact .inl rfl
    | true => cases x2 with
      | false => exact .inr ⟨rfl, rfl⟩
      | true => exact absurd ⟨by have := of_decide_eq_true d1; omega, by have := of_decide_eq_true d2; omega⟩ hs1
  obtain ⟨R, hR⟩ : ∃ R, cutR s = R := ⟨_, rfl⟩
  have c1 := fun w => Cut_any s w R hm' (Lib.hid hR)
  have c2 := fun w => rCut s w R hm' (Lib.hid hR)
  have c3 := fun w => Name_any s w hm'
  have c4 := fun w => rName s w hm'
  have hlen : ∀ a, R = .ok a → a.length ≤ 1000000 := fun a ha => by
    rw [ha, cutR] at hR
    split at hR
    · cases hR
    · have := (cut_tokens _ _ _ _ _ (Nat.le_refl _) hR).2.2 (by omega); omega
  obtain ⟨nv, hnv⟩ : ∃ nv, name (by_ s) = nv := ⟨_, rfl⟩
  rw [hnv] at c3 c4
  clear hR hnv hs1 hs2 hm'
  cases R with
  | error x =>
    obtain ⟨er, q⟩ := x
    clear hlen
    rcases hx with rfl | ⟨rfl, rfl⟩
    all_goals
      go_enter Tryd.func3, Tryd.ntmps3
      go_wp2_with fail
      refine (cl _).mono ?_
      rintro e w1 ⟨rfl, hb⟩
      go_wp2_with fail
      refine (c1 _).mono ?_
      rintro e w2 ⟨rfl, hb2⟩
      have B := bthen hb hb2
      go_wp2_with fail
      refine (c2 _).mono ?_
      rintro e w3 ⟨rfl, hb3⟩
      replace B := bthen B hb3
      clear hb hb2 hb3
      have ce := exact_any _ _ _ _ _ _ true w3 (nil_tok w3) (nil_tok w3) (by omega) (by omega) (Lib.hid (by simp))
      go_wp2_with fail
      refine ce.mono ?_
      rintro e w4 ⟨rfl, hb4⟩
      replace B := bthen B hb4
      clear hb4 ce
      go_wp2_with fail
      refine (c3 _).mono ?_
      rintro e w5 ⟨rfl, rfl⟩
      go_wp2_with fail
      refine (c4 _).mono ?_
      rintro e w6 ⟨rfl, hb6⟩
      go_wp2_with fail
      go_ret
      exact ⟨by simp, bthen B hb6⟩
  | ok a =>
    have ha := hlen a rfl
    clear hlen
    rcases hx with rfl | ⟨rfl, rfl⟩
    all_goals
      go_enter Tryd.func3, Tryd.ntmps3
      go_wp2_with fail
      refine (cl _).mono ?_
      rintro e w1 ⟨rfl, hb⟩
      go_wp2_with fail
      refine (c1 _).mono ?_
      rintro e w2 ⟨v2, rfl, hO2⟩
      have B := bthen hb hO2.below
      go_wp2_with fail
      refine (c2 _).mono ?_
      rintro e w3 ⟨v3, rfl, hO3⟩
      replace B := bthen B hO3.below
      have ce := exact_any _ _ _ _ _ _ true w3 (TokAt.of_own (hO2.kept hO3.below)) (TokAt.of_own hO3) ha ha (Lib.hid (by simp))
      clear hb hO2 hO3
      go_wp2_with fail
      refine ce.mono ?_
      rintro e w4 ⟨rfl, hb4⟩
      replace B := bthen B hb4
      clear hb4 ce
      go_wp2_with fail
      refine (c3 _).mono ?_
      rintro e w5 ⟨rfl, rfl⟩
      go_wp2_with fail
      refine (c4 _).mono ?_
      rintro e w6 ⟨rfl, hb6⟩
      go_wp2_with fail
      go_ret
      exact ⟨by simp, bthen B hb6⟩

end Go.Proofs.YtknecagkgegclaaDoor.Zl
