/- TreeOpen, walked. -/
import Derived.Test.YtjebdoecigmkhaaDoorYlive
namespace Go.Proofs.YtjebdoecigmkhaaDoor.Yl
set_option linter.unusedSimpArgs false
set_option linter.unusedVariables false
open Go.RowKit Go.Proofs.YtjebdoecigmkhaaDoor.Bn Go.Proofs.YtjebdoecigmkhaaDoor.Zm Go.Proofs.YtjebdoecigmkhaaDoor.Zr Go.Proofs.YtjebdoecigmkhaaDoor.Zp Go.Proofs.YtjebdoecigmkhaaDoor.Zk Go.Proofs.YtjebdoecigmkhaaDoor.Ym Go.Proofs.YtjebdoecigmkhaaDoor.Yp

set_option maxHeartbeats 2000000

set_option maxRecDepth 100000 in
theorem topen_walk (s : ByteArray) (w : World) (hm : s.size ≤ maxLen) (tb : True) : Calls Tryd.prog 7 #[.string s] w fun e w' => e = .returned (.bool true) ∧ Below w.heap.size w w' := by
  have cl := fun w => ylive_ok w
  have hm' := hm
  unfold maxLen at hm
  by_cases h4 : 400 < s.size
  · have d1 : decide ((400 : Int) < (s.size : Int)) = true := decide_eq_true (by omega)
    clear h4
    go_enter Tryd.func7, Tryd.ntmps7
    go_wp2_with fail
    refine (cl _).mono ?_
    rintro e w1 ⟨rfl, hb⟩
    go_wp2_with fail
    go_ret
    exact ⟨rfl, hb⟩
  have d1 : decide ((400 : Int) < (s.size : Int)) = false := decide_eq_false (by omega)
  have hs4 : s.size ≤ 400 := by omega
  clear h4
  obtain ⟨C, hC⟩ : ∃ C, cutR s = C := ⟨_, rfl⟩
  obtain ⟨R, hR⟩ : ∃ R, parseR s = R := ⟨_, rfl⟩
  have cc := fun w => Cut_any s w C hm' (Lib.hid hC)
  have cp := fun w => Parse_any s w R hm' (Lib.hid hR)
  cases R with
  | error x =>
    obtain ⟨er, q⟩ := x
    have d3 : ((er : Int) != 0) = true := by rcases parseR_er hR with rfl | rfl | rfl <;> rfl
    cases C with
    | error y =>
      obtain ⟨er2, q2⟩ := y
      clear hC hR hm'
      go_enter Tryd.func7, Tryd.ntmps7
      go_wp2_with fail
      refine (cl _).mono ?_
      rintro e w1 ⟨rfl, hb⟩
      go_wp2_with fail
      refine (cp _).mono ?_
      rintro e w2 ⟨rfl, hb2⟩
      go_wp2_with fail
      refine (cc _).mono ?_
      rintro e w3 ⟨rfl, hb3⟩
      have B := bthen (bthen hb hb2) hb3
      go_wp2_with fail
      go_ret
      exact ⟨rfl, B⟩
    | ok a =>
      clear hC hR hm'
      go_enter Tryd.func7, Tryd.ntmps7
      go_wp2_with fail
      refine (cl _).mono ?_
      rintro e w1 ⟨rfl, hb⟩
      go_wp2_with fail
      refine (cp _).mono ?_
      rintro e w2 ⟨rfl, hb2⟩
      go_wp2_with fail
      refine (cc _).mono ?_
      rintro e w3 ⟨v, rfl, hO⟩
      have B := bthen (bthen hb hb2) hO.below
      clear hO
      go_wp2_with fail
      go_ret
      exact ⟨rfl, B⟩
  | ok l =>
    obtain ⟨a, ha⟩ := parseR_cut_ok hR
    obtain rfl : C = .ok a := by rw [← hC, ha]
    have hp : parse (by_ s) = .ok l := by rw [← hR, parseR_small (by omega)]
    obtain ⟨hsz, hcut⟩ := cutR_ok hC
    obtain ⟨p0, p1⟩ := parse_open hp hcut
    rcases List.eq_nil_or_concat a with h0 | ⟨t1, u, h1⟩
    · obtain rfl := p0 h0
      subst h0
      clear hC hR hm' hp hcut p0 p1 ha
      go_enter Tryd.func7, Tryd.ntmps7
      go_wp2_with fail
      refine (cl _).mono ?_
      rintro e w1 ⟨rfl, hb⟩
      go_wp2_with fail
      refine (cp _).mono ?_
      rintro e w2 ⟨v, S, rfl, hb2, ⟨ptr, cap, rfl, -⟩, -⟩
      go_wp2_with fail
      refine (cc _).mono ?_
      rintro e w3 ⟨v, rfl, hO⟩
      obtain ⟨p, cap2, rfl⟩ := hO.form
      have B := bthen (bthen hb hb2) hO.below
      clear hO
      go_wp2_with fail
      go_ret
      exact ⟨rfl, B⟩
    · have h1' : a = t1 ++ [u] := by rw [h1, List.concat_eq_append]
      obtain ⟨q1, q2, q3⟩ := p1 t1 u h1'
      rw [by_len] at q1
      obtain ⟨s2, e1, e2, e3⟩ := slice_to s u.a q1
      have cq := fun w => Parse_any s2 w (.error (5, u.a)) (by rw [e2]; unfold maxLen; omega) (Lib.hid (by rw [parseR_small (by omega), e1]; exact q2))
      have hl : 0 < l.length := List.length_pos_iff.2 q3
      have dl : decide ((0 : Int) < (l.length : Int)) = true := decide_eq_true (by omega)
      have dl2 : decide (0 < l.length) = true := decide_eq_true (by omega)
      have ha0 : a.length = t1.length + 1 := by rw [h1']; simp
      have da : ((a.length : Int) == 0) = false := beq_eq_false_iff_ne.2 (by omega)
      have hm1 : IntKind.i64.wrap ((a.length : Int) - 1) = (t1.length : Int) := by
        have : a.length ≤ s.size := by have := (cut_tokens _ _ _ _ _ (Nat.le_refl _) hcut).2.1; rwa [by_len] at this
        rw [ha0]
        have : ((t1.length + 1 : Nat) : Int) - 1 = (t1.length : Int) := by omega
        rw [this]
        exact IntWalk.i64_in _ (by omega)
      have hu : a.getD t1.length ⟨0, 0, 0, []⟩ = u := by rw [h1']; simp [List.getD]
      have dlt : decide ((u.a : Int) < 0) = false := decide_eq_false (by omega)
      have dgt : decide ((s.size : Int) < (u.a : Int)) = false := decide_eq_false (by omega)
      have hA := Lib.hid ha0
      clear hC hR hm' hp hcut p0 p1 ha h1 h1' q2 q3 e1 ha0
      go_enter Tryd.func7, Tryd.ntmps7
      go_wp2_with fail
      refine (cl _).mono ?_
      rintro e w1 ⟨rfl, hb⟩
      go_wp2_with fail
      refine (cp _).mono ?_
      rintro e w2 ⟨v, S, rfl, hb2, ⟨ptr, cap, rfl, -⟩, -⟩
      go_wp2_with fail
      refine (cc _).mono ?_
      rintro e w3 ⟨v, rfl, hO⟩
      have T := TokAt.of_own hO
      have B := bthen (bthen hb hb2) hO.below
      clear hO
      obtain ⟨p, cap2, rfl, hT⟩ := T
      obtain ⟨g, o, rfl, hg, hc⟩ := hT.resolve_left (by have := hA.out; omega)
      obtain ⟨c0, c1, c2, c3⟩ := hc t1.length (by have := hA.out; omega)
      simp only [hu, tkI] at c0 c1 c2 c3
      have hA2 : t1.length < a.length := by have := hA.out; omega
      clear hc hT hb hb2
      go_wp2_with fail
      refine (cq _).mono ?_
      rintro e w4 ⟨rfl, hb4⟩
      replace B := bthen B hb4
      clear cq hb4
      go_wp2_with fail
      go_ret
      exact ⟨rfl, B⟩

end Go.Proofs.YtjebdoecigmkhaaDoor.Yl
