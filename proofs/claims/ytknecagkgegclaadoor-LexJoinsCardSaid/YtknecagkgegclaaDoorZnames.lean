/- LexNames, walked. -/
import Derived.Test.YtknecagkgegclaaDoorZlive
namespace Go.Proofs.YtknecagkgegclaaDoor.Zl
set_option linter.unusedSimpArgs false
set_option linter.unusedVariables false
open Go.RowKit Go.Proofs.YtknecagkgegclaaDoor.Zm Go.Proofs.YtknecagkgegclaaDoor.Zr Go.Proofs.YtknecagkgegclaaDoor.Zp Go.Proofs.YtknecagkgegclaaDoor.Zk Go.Proofs.YtknecagkgegclaaDoor.Bn

set_option maxHeartbeats 1000000

theorem err_ne {s : ByteArray} {er q : Nat} (h : cutR s = .error (er, q)) : er = 5 ∨ er = 6 := by
  unfold cutR at h
  split at h
  · injection h with h; injection h with h _; exact .inr h.symm
  · obtain ⟨_, _, _, he, _⟩ := cut_ahead _ _ _ _ _ _ (Nat.le_refl _) h
    exact he

set_option maxRecDepth 100000 in
theorem names_walk (s : ByteArray) (w : World) (hm : s.size ≤ maxLen) (tb : True) : Calls Tryd.prog 8 #[.string s] w fun e w' => e = .returned (.bool true) ∧ Below w.heap.size w w' := by
  have cl := fun w => zlive_ok w
  have hm' := hm
  unfold maxLen at hm
  by_cases h4 : 400 < s.size
  · have d1 : decide ((400 : Int) < (s.size : Int)) = true := decide_eq_true (by omega)
    clear h4
    go_enter Tryd.func8, Tryd.ntmps8
    go_wp2_with fail
    refine (cl _).mono ?_
    rintro e w1 ⟨rfl, hb⟩
    go_wp2_with fail
    go_ret
    exact ⟨rfl, hb⟩
  have d1 : decide ((400 : Int) < (s.size : Int)) = false := decide_eq_false (by omega)
  have cn := fun w => Name_any s w hm'
  obtain ⟨R, hR⟩ : ∃ R, cutR s = R := ⟨_, rfl⟩
  have cc := fun w => Cut_any s w R hm' (Lib.hid hR)
  have hcut : cut (by_ s) 0 0 = R := by rw [← hR, cutR, if_neg (by omega)]
  have hnc := name_cut (by_ s)
  rw [hcut] at hnc
  clear hcut
  cases R with
  | error x =>
    obtain ⟨er, q⟩ := x
    have d2 : ((er : Int) == 0) = false := by rcases err_ne hR with rfl | rfl <;> rfl
    have hn : name (by_ s) = false := bool_no hnc (by intro h; cases h)
    rw [hn] at cn
    clear hR hnc hn h4 hm'
    go_enter Tryd.func8, Tryd.ntmps8
    go_wp2_with fail
    refine (cl _).mono ?_
    rintro e w1 ⟨rfl, hb⟩
    go_wp2_with fail
    refine (cc _).mono ?_
    rintro e w2 ⟨rfl, hb2⟩
    have B := bthen hb hb2
    go_wp2_with fail
    refine (cn _).mono ?_
    rintro e w' ⟨rfl, rfl⟩
    go_wp2_with fail
    go_ret
    exact ⟨rfl, B⟩
  | ok a =>
    by_cases ha : a.length = 1
    · obtain ⟨t, rfl⟩ := List.length_eq_one_iff.1 ha
      have hq : name (by_ s) = true ↔ t.k = 1 ∧ t.a = 0 ∧ t.n = 0 ∧ t.s = s.toList := by
        rw [hnc, ByteArray.toList_eq]
        obtain ⟨k, p, n, l⟩ := t
        constructor
        · intro h; injection h with h; injection h with h _; injection h with h1 h2 h3 h4; exact ⟨h1, h2, h3, h4⟩
        · rintro ⟨rfl, rfl, rfl, rfl⟩; rfl
      obtain ⟨b, hb⟩ : ∃ b, name (by_ s) = b := ⟨_, rfl⟩
      rw [hb] at hq cn
      have HQ := Lib.hid hq
      clear hq hb hnc hR ha h4 hm'
      go_enter Tryd.func8, Tryd.ntmps8
      go_wp2_with fail
      refine (cl _).mono ?_
      rintro e w1 ⟨rfl, hb⟩
      go_wp2_with fail
      refine (cc _).mono ?_
      rintro e w2 ⟨v, rfl, hO⟩
      obtain ⟨g, cap, rfl, hg, lt1⟩ := hO.a.form (by simp)
      have RR := RowT.of_owns hO.a (by simp)
      have B := bthen hb hO.below
      obtain ⟨a0, a1, a2, a3⟩ := row_cells RR 0 (by simp)
      simp at a0 a1 a2 a3
      clear hO RR cc
      go_wp2_with fail
      all_goals
        refine (cn _).mono ?_
        rintro e w' ⟨rfl, rfl⟩
        cases b with
        | true =>
          have HA := HQ.out.1 rfl
          first
            | (exfalso; obtain ⟨q1, q2, q3, q4⟩ := HA; first | exact absurd q4 ‹_› | exact absurd q3 ‹_› | exact absurd q2 ‹_› | omega)
            | (clear HA; go_wp2_with fail; go_ret; exact ⟨rfl, B⟩)
        | false =>
          first
            | (exfalso; have HA := HQ.out.2 ⟨by omega, ‹t.a = 0›, ‹t.n = 0›, ‹t.s = s.toList›⟩; cases HA)
            | (go_wp2_with fail; go_ret; exact ⟨rfl, B⟩)
    · have hn : name (by_ s) = false := bool_no hnc (by intro h; injection h with h; rw [h] at ha; exact ha rfl)
      rw [hn] at cn
      have d2 : ((a.length : Int) == 1) = false := beq_eq_false_iff_ne.2 (by omega)
      clear hR hnc hn h4 hm' ha
      go_enter Tryd.func8, Tryd.ntmps8
      go_wp2_with fail
      refine (cl _).mono ?_
      rintro e w1 ⟨rfl, hb⟩
      go_wp2_with fail
      refine (cc _).mono ?_
      rintro e w2 ⟨v, rfl, hO⟩
      obtain ⟨ptr, cap, rfl⟩ := hO.form
      have B := bthen hb hO.below
      clear hO
      go_wp2_with fail
      refine (cn _).mono ?_
      rintro e w' ⟨rfl, rfl⟩
      go_wp2_with fail
      go_ret
      exact ⟨rfl, B⟩

end Go.Proofs.YtknecagkgegclaaDoor.Zl
