/- What Of, Neg, Fit and Cmp of the reference of layer 2 come to. -/
import Derived.Test.YtmngbhkokglmjaaRplus2
import Derived.Test.YtmngbhkokglmjaaLlive
namespace Go.Proofs.Ytmngbhkokglmjaa.Vr
open Go.RowKit Go.Proofs.Ytmngbhkokglmjaa.Vm Go.Proofs.Ytmngbhkokglmjaa.Vc Go.Proofs.Ytmngbhkokglmjaa.Vl
attribute [local go_sem] alloc_drewN setCell_drewN

set_option maxHeartbeats 1000000

theorem rsize_any (a : Int) (w : World) (f : Fit1 a) :
    Calls Try.prog 52 #[.int .i64 a] w fun e w' => e = .returned (.int .u64 (a.natAbs : Int)) ∧ w = w' := by
  obtain ⟨h1, h2⟩ := f
  by_cases c : a < 0
  · have e1 : (a.natAbs : Int) = -(a + 1) + 1 := by omega
    rw [e1]
    clear e1
    go_enter Try.func52, Try.ntmps52
    go_wp2
    go_ret
    exact ⟨rfl, rfl⟩
  · have e1 : (a.natAbs : Int) = a := by omega
    rw [e1]
    clear e1
    go_enter Try.func52, Try.ntmps52
    go_wp2
    go_ret
    exact ⟨rfl, rfl⟩

theorem num_abs (h l : Int) (b : Bd h l) : 0 ≤ ((num h l).natAbs : Int) ∧ ((num h l).natAbs : Int) < 340282366920938463463374607431768211456 ∧ sgn (decide (h < 0)) (num h l).natAbs = num h l := by
  unfold Bd at b
  unfold num sgn
  by_cases c : h < 0
  · simp [c]; omega
  · simp [c]; omega

theorem rOf_to (a h l : Int) (w : World) (f : Fit1 a) (hn : num h l = a) (bd : Bd h l) :
    Calls Try.prog 39 #[.int .i64 a] w fun e w' => e = .returned (.agg #[.int .i64 h, .int .u64 l]) ∧ Below w.heap.size w w' := by
  obtain ⟨d0, d1, d2, d3, d4, d5, d6, d7, D⟩ := d8_ex (x := num 0 (a.natAbs : Int)) (by unfold num; omega) (by unfold num; unfold Fit1 at f; omega)
  have D2 : D8 (a.natAbs : Int) d0 d1 d2 d3 d4 d5 d6 d7 := by
    have e : num 0 (a.natAbs : Int) = a.natAbs := by unfold num; omega
    rw [e] at D
    exact D
  have cs := fun w => rsize_any a w f
  have cp := fun s w => put_at s 0 (a.natAbs : Int) d0 d1 d2 d3 d4 d5 d6 d7 w (by omega) (by omega) (by omega) (by unfold Fit1 at f; omega) D
  have cb := fun s w => back_tells s (a.natAbs : Int) d0 d1 d2 d3 d4 d5 d6 d7 w D2
  obtain ⟨m, hm⟩ : ∃ m, (a.natAbs : Int) = m := ⟨_, rfl⟩
  rw [hm] at cs cp cb
  have key : ∀ s, s = decide (a < 0) → ∀ h' l' (is : Bool), ((is = true ∧ Res (sgn s m) h' l' 0) ∨ (is = false ∧ ¬ Fits (sgn s m))) → h = h' ∧ l = l' := by
    intro s hs h' l' is r
    have e : sgn s m = a := by
      unfold sgn; rw [hs, ← hm]
      by_cases c : a < 0
      · simp [c]; omega
      · simp [c]; omega
    rw [e] at r
    rcases r with ⟨_, r⟩ | ⟨_, r⟩
    · have := res_unique (Or.inl ⟨rfl, hn, bd⟩) r
      exact ⟨this.1, this.2.1⟩
    · exact absurd (by unfold Fits; unfold Fit1 at f; omega) r
  clear D D2 hm hn bd
  by_cases c : a < 0
  all_goals
    go_enter Try.func39, Try.ntmps39
    go_wp2_with fail
    refine (cs _).mono ?_
    rintro e w' ⟨rfl, rfl⟩
    go_wp2_with fail
    refine (cp _ _).mono ?_
    rintro e w' ⟨rfl, rfl⟩
    go_wp2_with fail
    refine (cb _ _).mono ?_
    rintro e w1 ⟨h', l', is, rfl, r, hb1⟩
    obtain ⟨rfl, rfl⟩ := key _ (by simp [c]) h' l' is r
    obtain ⟨hc, hf⟩ := bcell hb1
    obtain ⟨z1, k0, k1⟩ := (((Pair.new w (.int .i64 0) (.int .u64 0) 40).alloc _).alloc _).kept hb1
    have B1 : Below w.heap.size w w1 := ((((Below.refl _ _).alloc (Nat.le_refl _) _).alloc (by simp) _).alloc (by simp <;> omega) _).trans (hb1.mono (by simp <;> omega))
    clear hb1 r
    go_wp2
    refine bodyPost_ret (v := .agg #[.int .i64 h, .int .u64 l]) (by simp [results, Try.results39, go_sem, k0, k1, z1]) rfl ⟨rfl, ?_⟩
    repeat (first | exact B1 | refine Below.setCell ?_ (by simp <;> omega) _ | refine Below.alloc ?_ (by simp <;> omega) _)

end Go.Proofs.Ytmngbhkokglmjaa.Vr
