/- LexJoins, walked. -/
import Derived.Test.YtknecagkgegclaaDoorZrref
import Derived.Test.YtknecagkgegclaaDoorZlexb
namespace Go.Proofs.YtknecagkgegclaaDoor.Zl
set_option linter.unusedSimpArgs false
set_option linter.unusedVariables false
open Go.RowKit Go.Proofs.YtknecagkgegclaaDoor.Zm Go.Proofs.YtknecagkgegclaaDoor.Zr Go.Proofs.YtknecagkgegclaaDoor.Zp Go.Proofs.YtknecagkgegclaaDoor.Zk Go.Proofs.YtknecagkgegclaaDoor.Bn

set_option maxHeartbeats 1000000

set_option maxRecDepth 100000 in
theorem joins_walk (A : Option Addr) (n cap : Nat) (z : Nat → TkI) (w : World) (hz : TokensOf w A n cap z) (tb : Pows w) :
    Calls Tryd.prog 4 #[.slice A n cap] w fun e w' => e = .returned (.bool true) ∧ Below w.heap.size w w' := by
  have cl := fun w => zlive_ok w
  have T := TokAt.of_frame hz
  have hW : Hid (∀ i, i < n → (Lit.int .i64 (z i).k).wf = true ∧ (z i).s.size ≤ maxLen) := Lib.hid (fun i hi => by obtain ⟨h1, _, _, h4⟩ := hz.2.2.1 i hi; exact ⟨h1, h4⟩)
  have hW2 : Hid (∀ i, i < n → (z i).n ≤ 9223372036854775807 ∧ (z i).s.size ≤ maxLen) := Lib.hid (fun i hi => by
    obtain ⟨_, _, h3, h4⟩ := hz.2.2.1 i hi
    refine ⟨?_, h4⟩
    simp [Lit.wf] at h3
    omega)
  clear hz
  by_cases hA : 200 < n ∧ n ≤ 8192
  · obtain ⟨h1, h2⟩ := hA
    have d1 : decide ((200 : Int) < (n : Int)) = true := decide_eq_true (by omega)
    have d2 : decide ((n : Int) ≤ 8192) = true := decide_eq_true (by omega)
    clear h1 h2 T hW hW2 tb
    go_enter Tryd.func4, Tryd.ntmps4
    go_wp2_with fail
    refine (cl _).mono ?_
    rintro e w1 ⟨rfl, hb⟩
    go_wp2_with fail
    go_ret
    exact ⟨rfl, hb⟩
  by_cases hB : 8200 < n
  · have d1 : decide ((200 : Int) < (n : Int)) = true := decide_eq_true (by omega)
    have d2 : decide ((n : Int) ≤ 8192) = false := decide_eq_false (by omega)
    have d3 : decide ((8200 : Int) < (n : Int)) = true := decide_eq_true (by omega)
    clear hA hB T hW hW2 tb
    go_enter Tryd.func4, Tryd.ntmps4
    go_wp2_with fail
    refine (cl _).mono ?_
    rintro e w1 ⟨rfl, hb⟩
    go_wp2_with fail
    go_ret
    exact ⟨rfl, hb⟩
  have d3 : decide ((8200 : Int) < (n : Int)) = false := decide_eq_false (by omega)
  obtain ⟨x1, d1⟩ : ∃ x : Bool, decide ((200 : Int) < (n : Int)) = x := ⟨_, rfl⟩
  obtain ⟨x2, d2⟩ : ∃ x : Bool, decide ((n : Int) ≤ 8192) = x := ⟨_, rfl⟩
  have hx : x1 = false ∨ (x1 = true ∧ x2 = false) := by
    cases x1 with
    | false => exact .inl rfl
    | true => cases x2 with
      | false => exact .inr ⟨rfl, rfl⟩
      | true => exact absurd ⟨by have := of_decide_eq_true d1; omega, by have := of_decide_eq_true d2; omega⟩ hA
  obtain ⟨t, er, hJ⟩ : ∃ t er, JoinIs n z t er := by
    by_cases h : n ≤ 1000
    · rcases joinIs_exists n z h with ⟨h, _⟩ | ⟨h, _⟩
      · exact ⟨_, _, h⟩
      · exact ⟨_, _, h⟩
    · have : 8192 < n := by omega
      exact ⟨[], 1, .inl ⟨rfl, rfl, .inl this⟩⟩
  have hn : n ≤ 1000000 := by omega
  have c1 := fun w T P => Join_any (.slice A n cap) n z t er w T P hn hW (Lib.hid hJ)
  have c2 := fun w T => Go.Proofs.YtknecagkgegclaaDoor.Zr.rJoin_any (.slice A n cap) n z t er w T hn hW2 (Lib.hid hJ)
  clear hJ hn hA hB hW hW2
  rcases hx with rfl | ⟨rfl, rfl⟩
  all_goals
    go_enter Tryd.func4, Tryd.ntmps4
    go_wp2_with fail
    refine (cl _).mono ?_
    rintro e w1 ⟨rfl, hb⟩
    go_wp2_with fail
    refine (c1 _ (T.kept hb) (tb.kept hb)).mono ?_
    rintro e w2 ⟨rfl, hb2⟩
    have B := bthen hb hb2
    clear c1 hb hb2
    go_wp2_with fail
    refine (c2 _ (T.kept B)).mono ?_
    rintro e w3 ⟨rfl, hb3⟩
    have B3 := bthen B hb3
    clear c2 B hb3 T
    go_wp2_with fail
    go_ret
    first | exact ⟨by simp, B3⟩ | exact ⟨rfl, B3⟩ | exact B3

end Go.Proofs.YtknecagkgegclaaDoor.Zl
