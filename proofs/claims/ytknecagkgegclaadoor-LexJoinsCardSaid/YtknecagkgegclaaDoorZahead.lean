/- LexAhead, walked. -/
import Derived.Test.YtknecagkgegclaaDoorZnames
namespace Go.Proofs.YtknecagkgegclaaDoor.Zl
set_option linter.unusedSimpArgs false
set_option linter.unusedVariables false
open Go.RowKit Go.Proofs.YtknecagkgegclaaDoor.Zm Go.Proofs.YtknecagkgegclaaDoor.Zr Go.Proofs.YtknecagkgegclaaDoor.Zp Go.Proofs.YtknecagkgegclaaDoor.Zk Go.Proofs.YtknecagkgegclaaDoor.Bn

set_option maxHeartbeats 1000000

theorem by_append (a b : ByteArray) : by_ (a ++ b) = by_ a ++ by_ b := by
  show (a ++ b).data.toList = _
  rw [ByteArray.data_append]; simp [by_]

/-- two texts together -/
theorem sum_two (a b : ByteArray) (ha : a.size ≤ 1000000) (hb : b.size ≤ 1000000) : ∃ u : ByteArray, by_ u = by_ a ++ by_ b ∧ u.size = a.size + b.size ∧ ∀ w, (Op.stringOp .add a b).run Tryd.prog w = .ok (.string u) w :=
  ⟨a ++ b, by_append a b, ByteArray.size_append, fun w => run_string_add_sum w _ _ (by omega)⟩

theorem slice_to (s : ByteArray) (b : Nat) (hb : b ≤ s.size) : ∃ t : ByteArray, by_ t = (by_ s).take b ∧ t.size = b ∧
    ∀ w, (Instr.slice 9 (.string s) none (some (.int .i64 (b : Int))) none).run Tryd.prog w = .ok (.string t) w := by
  refine ⟨s.extract 0 b, ?_, ?_, fun w => ?_⟩
  · rw [by_extract s 0 b (by omega) hb, List.drop_zero]
  · rw [ByteArray.size_extract]; omega
  · rw [run_slice_string_to_if _ _ _ _ _ Tryd.underlying9, if_pos ⟨by omega, by omega⟩]; simp

set_option maxRecDepth 100000 in
theorem ahead_walk (s t : ByteArray) (w : World) (hm : s.size ≤ maxLen) (hmt : t.size ≤ maxLen) (tb : True) : Calls Tryd.prog 9 #[.string s, .string t] w fun e w' => e = .returned (.bool true) ∧ Below w.heap.size w w' := by
  have cl := fun w => zlive_ok w
  have hm' := hm
  unfold maxLen at hm hmt
  by_cases h4 : 200 < s.size
  · have d1 : decide ((200 : Int) < (s.size : Int)) = true := decide_eq_true (by omega)
    clear h4
    go_enter Tryd.func9, Tryd.ntmps9
    go_wp2_with fail
    refine (cl _).mono ?_
    rintro e w1 ⟨rfl, hb⟩
    go_wp2_with fail
    go_ret
    exact ⟨rfl, hb⟩
  have d1 : decide ((200 : Int) < (s.size : Int)) = false := decide_eq_false (by omega)
  by_cases h5 : 200 < t.size
  · have d2 : decide ((200 : Int) < (t.size : Int)) = true := decide_eq_true (by omega)
    clear h4 h5
    go_enter Tryd.func9, Tryd.ntmps9
    go_wp2_with fail
    refine (cl _).mono ?_
    rintro e w1 ⟨rfl, hb⟩
    go_wp2_with fail
    go_ret
    exact ⟨rfl, hb⟩
  have d2 : decide ((200 : Int) < (t.size : Int)) = false := decide_eq_false (by omega)
  have hs4 : s.size ≤ 200 := by omega
  have ht4 : t.size ≤ 200 := by omega
  clear h4 h5
  obtain ⟨R, hR⟩ : ∃ R, cutR s = R := ⟨_, rfl⟩
  have cc := fun w => Cut_any s w R hm' (Lib.hid hR)
  have hcut : cut (by_ s) 0 0 = R := by rw [← hR, cutR, if_neg (by omega)]
  cases R with
  | ok a =>
    clear hcut hR hm'
    go_enter Tryd.func9, Tryd.ntmps9
    go_wp2_with fail
    refine (cl _).mono ?_
    rintro e w1 ⟨rfl, hb⟩
    go_wp2_with fail
    refine (cc _).mono ?_
    rintro e w2 ⟨v, rfl, hO⟩
    have B := bthen hb hO.below
    clear hO
    go_wp2_with fail
    go_ret
    exact ⟨rfl, B⟩
  | error x =>
    obtain ⟨er, q⟩ := x
    have d3 : ((er : Int) == 0) = false := by rcases err_ne hR with rfl | rfl <;> rfl
    obtain ⟨j, hj, hq, _, a, ha⟩ := cut_ahead _ _ _ _ _ _ (Nat.le_refl _) hcut
    rw [by_len] at hj
    obtain rfl : q = j := by omega
    obtain ⟨s1, hs1, hz1, he1⟩ := slice_to s q (by omega)
    obtain ⟨u1, hu1, hzu1, hea⟩ := sum_two s ⟨#[10]⟩ (by omega) (by decide)
    obtain ⟨u2, hu2, hzu2, heb⟩ := sum_two u1 t (by rw [hzu1]; have : (⟨#[10]⟩ : ByteArray).size = 1 := rfl; omega) (by omega)
    have hz2 : u2.size ≤ 1000 := by rw [hzu2, hzu1]; have : (⟨#[10]⟩ : ByteArray).size = 1 := rfl; omega
    have c1 := fun w => Cut_any s1 w (.ok a) (by unfold maxLen; omega) (Lib.hid (by rw [cutR, if_neg (by omega), hs1]; exact ha))
    have c2 := fun w => Cut_any u2 w (.error (er, q)) (by unfold maxLen; omega) (Lib.hid (by
      rw [cutR, if_neg (by omega), hu2, hu1, List.append_assoc]
      exact cut_line_error (by_ t) hcut))
    have d4 : decide ((s.size : Int) ≤ (q : Int)) = false := decide_eq_false (by omega)
    clear hcut hR hm' ha hs1 hz1 hu1 hzu1 hu2 hzu2 hz2 hq
    go_enter Tryd.func9, Tryd.ntmps9
    go_wp2_with fail
    refine (cl _).mono ?_
    rintro e w1 ⟨rfl, hb⟩
    go_wp2_with fail
    refine (cc _).mono ?_
    rintro e w2 ⟨rfl, hb2⟩
    have B := bthen hb hb2
    clear hb hb2
    go_wp2_with fail
    refine (c1 _).mono ?_
    rintro e w3 ⟨v, rfl, hO⟩
    replace B := bthen B hO.below
    clear hO
    go_wp2_with fail
    refine (c2 _).mono ?_
    rintro e w4 ⟨rfl, hb2⟩
    replace B := bthen B hb2
    clear hb2
    go_wp2_with fail
    go_ret
    exact ⟨by simp, B⟩

end Go.Proofs.YtknecagkgegclaaDoor.Zl
