/- Joined: Rfuns, Rneg, Rfit, Radd, Rmath3, Rmul. -/
import Derived.Test.YtfjckgnclhpmcaaDoorRplus2
import Derived.Test.YtfjckgnclhpmcaaDoorLlive
import Derived.Deep.RegionHeld3
import Derived.Deep.DeepCutAuto
import Derived.Deep.DrawnRows
import Derived.Lib.Hide
/- What Of, Neg, Fit and Cmp of the reference of layer 2 come to. -/
namespace Go.Proofs.YtfjckgnclhpmcaaDoor.Vr
set_option linter.unusedSimpArgs false
set_option linter.unusedVariables false
open Go.RowKit Go.Proofs.YtfjckgnclhpmcaaDoor.Vm Go.Proofs.YtfjckgnclhpmcaaDoor.Vc Go.Proofs.YtfjckgnclhpmcaaDoor.Vl
attribute [local go_sem] alloc_drewN setCell_drewN

set_option maxHeartbeats 1000000

theorem rsize_any (a : Int) (w : World) (f : Fit1 a) :
    Calls Tryd.prog 46 #[.int .i64 a] w fun e w' => e = .returned (.int .u64 (a.natAbs : Int)) ∧ w = w' := by
  obtain ⟨h1, h2⟩ := f
  by_cases c : a < 0
  · have e1 : (a.natAbs : Int) = -(a + 1) + 1 := by omega
    rw [e1]
    clear e1
    go_enter Tryd.func46, Tryd.ntmps46
    go_wp2
    go_ret
    exact ⟨rfl, rfl⟩
  · have e1 : (a.natAbs : Int) = a := by omega
    rw [e1]
    clear e1
    go_enter Tryd.func46, Tryd.ntmps46
    go_wp2
    go_ret
    exact ⟨rfl, rfl⟩

theorem num_abs (h l : Int) (b : Bd h l) : 0 ≤ ((num h l).natAbs : Int) ∧ ((num h l).natAbs : Int) < 340282366920938463463374607431768211456 ∧ sgn (decide (h < 0)) (num h l).natAbs = num h l := by
  unfold Bd at b
  unfold num sgn
  by_cases c : h < 0
  · simp [c]; omega
  · simp [c]; omega

theorem rOf_to (a h l : Int) (w : World) (f : Fit1 a) (hn : num h l = a) (bd : Bd h l) :
    Calls Tryd.prog 35 #[.int .i64 a] w fun e w' => e = .returned (.agg #[.int .i64 h, .int .u64 l]) ∧ Below w.heap.size w w' := by
  obtain ⟨d0, d1, d2, d3, d4, d5, d6, d7, D⟩ := d8_ex (x := num 0 (a.natAbs : Int)) (by unfold num; omega) (by unfold num; unfold Fit1 at f; omega)
  have D2 : D8 (a.natAbs : Int) d0 d1 d2 d3 d4 d5 d6 d7 := by
    have e : num 0 (a.natAbs : Int) = a.natAbs := by unfold num; omega
    rw [e] at D
    exact D
  have cs := fun w => rsize_any a w f
  have cp := fun s w => put_at s 0 (a.natAbs : Int) d0 d1 d2 d3 d4 d5 d6 d7 w (by omega) (by omega) (by omega) (by unfold Fit1 at f; omega) D
  have cb := fun s w => back_tells s (a.natAbs : Int) d0 d1 d2 d3 d4 d5 d6 d7 w D2
  obtain ⟨m, hm⟩ : ∃ m, (a.natAbs : Int) = m := ⟨_, rfl⟩
  rw [hm] at cs cp cb
  have key : ∀ s, s = decide (a < 0) → ∀ h' l' (is : Bool), ((is = true ∧ Res (sgn s m) h' l' 0) ∨ (is = false ∧ ¬ Fits (sgn s m))) → h = h' ∧ l = l' := by
    intro s hs h' l' is r
    have e : sgn s m = a := by
      unfold sgn; rw [hs, ← hm]
      by_cases c : a < 0
      · simp [c]; omega
      · simp [c]; omega
    rw [e] at r
    rcases r with ⟨_, r⟩ | ⟨_, r⟩
    · have := res_unique (Or.inl ⟨rfl, hn, bd⟩) r
      exact ⟨this.1, this.2.1⟩
    · exact absurd (by unfold Fits; unfold Fit1 at f; omega) r
  clear D D2 hm hn bd
  by_cases c : a < 0
  all_goals
    go_enter Tryd.func35, Tryd.ntmps35
    go_wp2_with fail
    refine (cs _).mono ?_
    rintro e w' ⟨rfl, rfl⟩
    go_wp2_with fail
    refine (cp _ _).mono ?_
    rintro e w' ⟨rfl, rfl⟩
    go_wp2_with fail
    refine (cb _ _).mono ?_
    rintro e w1 ⟨h', l', is, rfl, r, hb1⟩
    obtain ⟨rfl, rfl⟩ := key _ (by simp [c]) h' l' is r
    obtain ⟨hc, hf⟩ := bcell hb1
    obtain ⟨z1, k0, k1⟩ := (((Pair.new w (.int .i64 0) (.int .u64 0) 56).alloc _).alloc _).kept hb1
    have B1 : Below w.heap.size w w1 := ((((Below.refl _ _).alloc (Nat.le_refl _) _).alloc (by simp) _).alloc (by simp <;> omega) _).trans (hb1.mono (by simp <;> omega))
    clear hb1 r
    go_wp2
    refine bodyPost_ret (v := .agg #[.int .i64 h, .int .u64 l]) (by simp [results, Tryd.results35, go_sem, k0, k1, z1]) rfl ⟨rfl, ?_⟩
    repeat (first | exact B1 | refine Below.setCell ?_ (by simp <;> omega) _ | refine Below.alloc ?_ (by simp <;> omega) _)

end Go.Proofs.YtfjckgnclhpmcaaDoor.Vr

/- What Neg, Fit and Cmp of the reference of layer 2 come to. -/
namespace Go.Proofs.YtfjckgnclhpmcaaDoor.Vr
set_option linter.unusedSimpArgs false
set_option linter.unusedVariables false
open Go.RowKit Go.Proofs.YtfjckgnclhpmcaaDoor.Vm Go.Proofs.YtfjckgnclhpmcaaDoor.Vc Go.Proofs.YtfjckgnclhpmcaaDoor.Vl
attribute [local go_sem] alloc_drewN setCell_drewN

set_option maxHeartbeats 1000000

end Go.Proofs.YtfjckgnclhpmcaaDoor.Vr

/- What Fit of the reference of layer 2 comes to. -/
namespace Go.Proofs.YtfjckgnclhpmcaaDoor.Vr
set_option linter.unusedSimpArgs false
set_option linter.unusedVariables false
open Go.RowKit Go.Proofs.YtfjckgnclhpmcaaDoor.Vm Go.Proofs.YtfjckgnclhpmcaaDoor.Vc Go.Proofs.YtfjckgnclhpmcaaDoor.Vl
attribute [local go_sem] alloc_drewN setCell_drewN

set_option maxHeartbeats 1000000

theorem rFit_tells (h1 l1 : Int) (w : World) (b1 : Bd h1 l1) :
    Calls Tryd.prog 32 #[.agg #[.int .i64 h1, .int .u64 l1]] w (Tells1 (num h1 l1) w) := by
  obtain ⟨n0, n1, n2⟩ := num_abs h1 l1 b1
  obtain ⟨d0, d1, d2, d3, d4, d5, d6, d7, D⟩ := d8_ex n0 n1
  have co := fun w => of_at h1 l1 d0 d1 d2 d3 d4 d5 d6 d7 w b1 D
  obtain ⟨hh, ehh⟩ : ∃ t, ((num h1 l1).natAbs : Int) / 18446744073709551616 = t := ⟨_, rfl⟩
  obtain ⟨ll, ell⟩ : ∃ t, ((num h1 l1).natAbs : Int) % 18446744073709551616 = t := ⟨_, rfl⟩
  obtain ⟨p0, p1, p2, p3, ex⟩ := back_facts n0 n1 ehh ell
  have cw := fun s w => words_to s _ hh ll d0 d1 d2 d3 d4 d5 d6 d7 w D (Lib.hid ehh) (Lib.hid ell)
  rw [ex] at n2
  replace n2 := Lib.hid n2
  clear D n0 n1 ehh ell ex
  have cs : decide (h1 < 0) = true ∨ decide (h1 < 0) = false := by cases decide (h1 < 0) <;> simp
  by_cases c1 : 0 < hh
  · have d1 : decide (0 < hh) = true := decide_eq_true c1
    rcases cs with s | s
    · have Q := n2.out
      rw [s] at Q
      have R : Res1 (num h1 l1) (0) 2 := .inr ⟨rfl, rfl, by unfold Fit1; unfold sgn num at Q; simp at Q; unfold num; omega⟩
      clear Q n2
      replace R := Lib.hid R
      go_enter Tryd.func32, Tryd.ntmps32
      go_wp2_with fail
      refine (co _).mono ?_
      rintro e w' ⟨rfl, rfl⟩
      go_wp2_with fail
      refine (cw _ _).mono ?_
      rintro e w1 ⟨rfl, hb1⟩
      have B1 : Below w.heap.size w w1 := by
        refine Below.trans ?_ (hb1.mono (by simp <;> omega))
        repeat (first | exact Below.refl _ _ | refine Below.alloc ?_ (by simp <;> omega) _)
      obtain ⟨hc, hf⟩ := bcell hb1
      have k0 : w1.cell? ⟨w.heap.size + 1 + 1 + 1 + 1 + 1, 0, none⟩ = some (.bool true) := by rw [hc _ _ (by simp <;> omega)]; simp [go_sem]
      clear hc hf hb1
      go_wp2
      go_ret2
      exact ⟨0, 2, rfl, R.out, B1⟩
    · have Q := n2.out
      rw [s] at Q
      have R : Res1 (num h1 l1) (0) 2 := .inr ⟨rfl, rfl, by unfold Fit1; unfold sgn num at Q; simp at Q; unfold num; omega⟩
      clear Q n2
      replace R := Lib.hid R
      go_enter Tryd.func32, Tryd.ntmps32
      go_wp2_with fail
      refine (co _).mono ?_
      rintro e w' ⟨rfl, rfl⟩
      go_wp2_with fail
      refine (cw _ _).mono ?_
      rintro e w1 ⟨rfl, hb1⟩
      have B1 : Below w.heap.size w w1 := by
        refine Below.trans ?_ (hb1.mono (by simp <;> omega))
        repeat (first | exact Below.refl _ _ | refine Below.alloc ?_ (by simp <;> omega) _)
      obtain ⟨hc, hf⟩ := bcell hb1
      have k0 : w1.cell? ⟨w.heap.size + 1 + 1 + 1 + 1 + 1, 0, none⟩ = some (.bool false) := by rw [hc _ _ (by simp <;> omega)]; simp [go_sem]
      clear hc hf hb1
      go_wp2
      go_ret2
      exact ⟨0, 2, rfl, R.out, B1⟩
  · obtain rfl : hh = 0 := by omega
    by_cases c2 : 9223372036854775808 < ll
    · have d2 : decide (9223372036854775808 < ll) = true := decide_eq_true c2
      rcases cs with s | s
      · have Q := n2.out
        rw [s] at Q
        have R : Res1 (num h1 l1) (0) 2 := .inr ⟨rfl, rfl, by unfold Fit1; unfold sgn num at Q; simp at Q; unfold num; omega⟩
        clear Q n2
        replace R := Lib.hid R
        go_enter Tryd.func32, Tryd.ntmps32
        go_wp2_with fail
        refine (co _).mono ?_
        rintro e w' ⟨rfl, rfl⟩
        go_wp2_with fail
        refine (cw _ _).mono ?_
        rintro e w1 ⟨rfl, hb1⟩
        have B1 : Below w.heap.size w w1 := by
          refine Below.trans ?_ (hb1.mono (by simp <;> omega))
          repeat (first | exact Below.refl _ _ | refine Below.alloc ?_ (by simp <;> omega) _)
        obtain ⟨hc, hf⟩ := bcell hb1
        have k0 : w1.cell? ⟨w.heap.size + 1 + 1 + 1 + 1 + 1, 0, none⟩ = some (.bool true) := by rw [hc _ _ (by simp <;> omega)]; simp [go_sem]
        clear hc hf hb1
        go_wp2
        go_ret2
        exact ⟨0, 2, rfl, R.out, B1⟩
      · have Q := n2.out
        rw [s] at Q
        have R : Res1 (num h1 l1) (0) 2 := .inr ⟨rfl, rfl, by unfold Fit1; unfold sgn num at Q; simp at Q; unfold num; omega⟩
        clear Q n2
        replace R := Lib.hid R
        go_enter Tryd.func32, Tryd.ntmps32
        go_wp2_with fail
        refine (co _).mono ?_
        rintro e w' ⟨rfl, rfl⟩
        go_wp2_with fail
        refine (cw _ _).mono ?_
        rintro e w1 ⟨rfl, hb1⟩
        have B1 : Below w.heap.size w w1 := by
          refine Below.trans ?_ (hb1.mono (by simp <;> omega))
          repeat (first | exact Below.refl _ _ | refine Below.alloc ?_ (by simp <;> omega) _)
        obtain ⟨hc, hf⟩ := bcell hb1
        have k0 : w1.cell? ⟨w.heap.size + 1 + 1 + 1 + 1 + 1, 0, none⟩ = some (.bool false) := by rw [hc _ _ (by simp <;> omega)]; simp [go_sem]
        clear hc hf hb1
        go_wp2
        go_ret2
        exact ⟨0, 2, rfl, R.out, B1⟩
    · have d2 : decide (9223372036854775808 < ll) = false := decide_eq_false c2
      by_cases c3 : ll = 9223372036854775808
      · subst c3
        clear c2 d2
        rcases cs with s | s
        · have Q := n2.out
          rw [s] at Q
          have R : Res1 (num h1 l1) (-9223372036854775808) 0 := .inl ⟨rfl, by unfold sgn num at Q; simp at Q; unfold num; omega, by unfold Fit1; unfold sgn num at Q; simp at Q; unfold num; omega⟩
          clear Q n2
          replace R := Lib.hid R
          go_enter Tryd.func32, Tryd.ntmps32
          go_wp2_with fail
          refine (co _).mono ?_
          rintro e w' ⟨rfl, rfl⟩
          go_wp2_with fail
          refine (cw _ _).mono ?_
          rintro e w1 ⟨rfl, hb1⟩
          have B1 : Below w.heap.size w w1 := by
            refine Below.trans ?_ (hb1.mono (by simp <;> omega))
            repeat (first | exact Below.refl _ _ | refine Below.alloc ?_ (by simp <;> omega) _)
          obtain ⟨hc, hf⟩ := bcell hb1
          have k0 : w1.cell? ⟨w.heap.size + 1 + 1 + 1 + 1 + 1, 0, none⟩ = some (.bool true) := by rw [hc _ _ (by simp <;> omega)]; simp [go_sem]
          clear hc hf hb1
          go_wp2
          go_ret2
          exact ⟨-9223372036854775808, 0, rfl, R.out, B1⟩
        · have Q := n2.out
          rw [s] at Q
          have R : Res1 (num h1 l1) (0) 2 := .inr ⟨rfl, rfl, by unfold Fit1; unfold sgn num at Q; simp at Q; unfold num; omega⟩
          clear Q n2
          replace R := Lib.hid R
          go_enter Tryd.func32, Tryd.ntmps32
          go_wp2_with fail
          refine (co _).mono ?_
          rintro e w' ⟨rfl, rfl⟩
          go_wp2_with fail
          refine (cw _ _).mono ?_
          rintro e w1 ⟨rfl, hb1⟩
          have B1 : Below w.heap.size w w1 := by
            refine Below.trans ?_ (hb1.mono (by simp <;> omega))
            repeat (first | exact Below.refl _ _ | refine Below.alloc ?_ (by simp <;> omega) _)
          obtain ⟨hc, hf⟩ := bcell hb1
          have k0 : w1.cell? ⟨w.heap.size + 1 + 1 + 1 + 1 + 1, 0, none⟩ = some (.bool false) := by rw [hc _ _ (by simp <;> omega)]; simp [go_sem]
          clear hc hf hb1
          go_wp2
          go_ret2
          exact ⟨0, 2, rfl, R.out, B1⟩
      · have d3 : (ll == 9223372036854775808) = false := beq_eq_false_iff_ne.2 c3
        have c4 : ll ≤ 9223372036854775807 := by omega
        rcases cs with s | s
        · by_cases c5 : 0 < ll
          · have d5 : decide (0 < ll) = true := decide_eq_true c5
            have c6 : 1 ≤ ll := by omega
            have Q := n2.out
            rw [s] at Q
            have R : Res1 (num h1 l1) (-(ll - 1) - 1) 0 := .inl ⟨rfl, by unfold sgn num at Q; simp at Q; unfold num; omega, by unfold Fit1; unfold sgn num at Q; simp at Q; unfold num; omega⟩
            clear Q n2
            replace R := Lib.hid R
            go_enter Tryd.func32, Tryd.ntmps32
            go_wp2_with fail
            refine (co _).mono ?_
            rintro e w' ⟨rfl, rfl⟩
            go_wp2_with fail
            refine (cw _ _).mono ?_
            rintro e w1 ⟨rfl, hb1⟩
            have B1 : Below w.heap.size w w1 := by
              refine Below.trans ?_ (hb1.mono (by simp <;> omega))
              repeat (first | exact Below.refl _ _ | refine Below.alloc ?_ (by simp <;> omega) _)
            obtain ⟨hc, hf⟩ := bcell hb1
            have k0 : w1.cell? ⟨w.heap.size + 1 + 1 + 1 + 1 + 1, 0, none⟩ = some (.bool true) := by rw [hc _ _ (by simp <;> omega)]; simp [go_sem]
            clear hc hf hb1
            go_wp2
            go_ret2
            exact ⟨-(ll - 1) - 1, 0, rfl, R.out, B1⟩
          · obtain rfl : ll = 0 := by omega
            clear c2 d2 c3 d3 c4 c5
            have Q := n2.out
            rw [s] at Q
            have R : Res1 (num h1 l1) (0) 0 := .inl ⟨rfl, by unfold sgn num at Q; simp at Q; unfold num; omega, by unfold Fit1; unfold sgn num at Q; simp at Q; unfold num; omega⟩
            clear Q n2
            replace R := Lib.hid R
            go_enter Tryd.func32, Tryd.ntmps32
            go_wp2_with fail
            refine (co _).mono ?_
            rintro e w' ⟨rfl, rfl⟩
            go_wp2_with fail
            refine (cw _ _).mono ?_
            rintro e w1 ⟨rfl, hb1⟩
            have B1 : Below w.heap.size w w1 := by
              refine Below.trans ?_ (hb1.mono (by simp <;> omega))
              repeat (first | exact Below.refl _ _ | refine Below.alloc ?_ (by simp <;> omega) _)
            obtain ⟨hc, hf⟩ := bcell hb1
            have k0 : w1.cell? ⟨w.heap.size + 1 + 1 + 1 + 1 + 1, 0, none⟩ = some (.bool true) := by rw [hc _ _ (by simp <;> omega)]; simp [go_sem]
            clear hc hf hb1
            go_wp2
            go_ret2
            exact ⟨0, 0, rfl, R.out, B1⟩
        · have Q := n2.out
          rw [s] at Q
          have R : Res1 (num h1 l1) (ll) 0 := .inl ⟨rfl, by unfold sgn num at Q; simp at Q; unfold num; omega, by unfold Fit1; unfold sgn num at Q; simp at Q; unfold num; omega⟩
          clear Q n2
          replace R := Lib.hid R
          go_enter Tryd.func32, Tryd.ntmps32
          go_wp2_with fail
          refine (co _).mono ?_
          rintro e w' ⟨rfl, rfl⟩
          go_wp2_with fail
          refine (cw _ _).mono ?_
          rintro e w1 ⟨rfl, hb1⟩
          have B1 : Below w.heap.size w w1 := by
            refine Below.trans ?_ (hb1.mono (by simp <;> omega))
            repeat (first | exact Below.refl _ _ | refine Below.alloc ?_ (by simp <;> omega) _)
          obtain ⟨hc, hf⟩ := bcell hb1
          have k0 : w1.cell? ⟨w.heap.size + 1 + 1 + 1 + 1 + 1, 0, none⟩ = some (.bool false) := by rw [hc _ _ (by simp <;> omega)]; simp [go_sem]
          clear hc hf hb1
          go_wp2
          go_ret2
          exact ⟨ll, 0, rfl, R.out, B1⟩

theorem rFit_any (h l v er : Int) (w : World) (b1 : Bd h l) (r : Res1 (num h l) v er) :
    Calls Tryd.prog 32 #[.agg #[.int .i64 h, .int .u64 l]] w fun e w' =>
      e = .returned (.tuple #[.int .i64 v, .int .i64 er]) ∧ Below w.heap.size w w' :=
  (rFit_tells h l w b1).mono fun e w' ⟨v', er', he, r', hb⟩ => by
    obtain ⟨rfl, rfl⟩ := res1_unique r r'
    exact ⟨he, hb⟩

end Go.Proofs.YtfjckgnclhpmcaaDoor.Vr

/- What Add of the reference of layer 2 comes to. -/
namespace Go.Proofs.YtfjckgnclhpmcaaDoor.Vr
set_option linter.unusedSimpArgs false
set_option linter.unusedVariables false
open Go.RowKit Go.Proofs.YtfjckgnclhpmcaaDoor.Vm Go.Proofs.YtfjckgnclhpmcaaDoor.Vc Go.Proofs.YtfjckgnclhpmcaaDoor.Vl
attribute [local go_sem ↓] Go.wp_at_zero Go.wp_at_succ

set_option maxHeartbeats 1000000

theorem of_to (h l d0 d1 d2 d3 d4 d5 d6 d7 : Int) (w : World) (B : Bd h l) (D : D8 (num h l).natAbs d0 d1 d2 d3 d4 d5 d6 d7) :
    Calls Tryd.prog 41 #[.agg #[.int .i64 h, .int .u64 l]] w fun e w' => e = .returned (.agg #[.bool (decide (h < 0)), .int .u64 d0, .int .u64 d1, .int .u64 d2, .int .u64 d3, .int .u64 d4, .int .u64 d5, .int .u64 d6, .int .u64 d7]) ∧ Below w.heap.size w w' :=
  (of_at h l d0 d1 d2 d3 d4 d5 d6 d7 w B D).mono fun e w' ⟨he, hw⟩ => ⟨he, by rw [hw]; exact (((((Below.refl _ _).alloc (Nat.le_refl _) _).alloc (by simp) _).alloc (by simp <;> omega) _).alloc (by simp <;> omega) _)⟩

/-- block g holds a sign and eight digits -/
def Nine (W : World) (g : Nat) (v : Bool) (r0 r1 r2 r3 r4 r5 r6 r7 : Int) : Prop := W.cell? ⟨g, 0, none⟩ = some (.bool v) ∧ W.cell? ⟨g, 1, none⟩ = some (.int .u64 r0) ∧ W.cell? ⟨g, 2, none⟩ = some (.int .u64 r1) ∧ W.cell? ⟨g, 3, none⟩ = some (.int .u64 r2) ∧ W.cell? ⟨g, 4, none⟩ = some (.int .u64 r3) ∧ W.cell? ⟨g, 5, none⟩ = some (.int .u64 r4) ∧ W.cell? ⟨g, 6, none⟩ = some (.int .u64 r5) ∧ W.cell? ⟨g, 7, none⟩ = some (.int .u64 r6) ∧ W.cell? ⟨g, 8, none⟩ = some (.int .u64 r7)

/-- block g is there, holds nought, and may be written -/
structure Blk9 (W : World) (g : Nat) : Prop where
  lt : g < W.heap.size
  c : Nine W g false 0 0 0 0 0 0 0 0
  f : ∀ i, W.frozen? ⟨g, i, none⟩ = false
theorem Blk9.kept {W w1 : World} {g : Nat} (p : Blk9 W g) (hb : Below W.heap.size W w1) : Blk9 w1 g := by
  refine ⟨Nat.lt_of_lt_of_le p.lt hb.size, ?_, fun i => (hb.frozen (p := ⟨g, i, none⟩) p.lt).trans (p.f i)⟩
  obtain ⟨k0, k1, k2, k3, k4, k5, k6, k7, k8⟩ := p.c
  have q := fun i => hb.cell (p := ⟨g, i, none⟩) p.lt
  exact ⟨(q 0).trans k0, (q 1).trans k1, (q 2).trans k2, (q 3).trans k3, (q 4).trans k4, (q 5).trans k5, (q 6).trans k6, (q 7).trans k7, (q 8).trans k8⟩
theorem Blk9.new (W : World) (t : TypeId) : Blk9 (W.alloc (.cells #[.bool false, .int .u64 0, .int .u64 0, .int .u64 0, .int .u64 0, .int .u64 0, .int .u64 0, .int .u64 0, .int .u64 0] t)) W.heap.size := by
  refine ⟨by simp, ?_, fun i => by simp [go_sem]⟩
  unfold Nine
  refine ⟨?_, ?_, ?_, ?_, ?_, ?_, ?_, ?_, ?_⟩ <;> simp [go_sem]
theorem Blk9.newD (W : World) (t : TypeId) : Blk9 ((W.alloc (.cells #[.bool false, .int .u64 0, .int .u64 0, .int .u64 0, .int .u64 0, .int .u64 0, .int .u64 0, .int .u64 0, .int .u64 0] t)).drew) W.heap.size := ⟨(Blk9.new W t).lt, (Blk9.new W t).c, (Blk9.new W t).f⟩

/-- the first n cells of block g are f's -/
def Has (W : World) (g n : Nat) (f : Nat → Value) : Prop := ∀ i, i < n → W.cell? ⟨g, i, none⟩ = some (f i)
theorem has_set {W : World} {g n k : Nat} {f : Nat → Value} {v : Value} (h : Has W g n f) (hk : k < n) : Has (W.setCell ⟨g, k, none⟩ v) g n (fun i => if i = k then v else f i) := by
  intro i hi
  show _ = some (if i = k then v else f i)
  by_cases e : i = k
  · subst e
    rw [if_pos rfl]
    exact World.cell?_setCell_same W _ v (h i hi)
  · rw [if_neg e, World.cell?_setCell_other W _ _ v (by intro e'; injection e' with _ e'; exact e e'.symm)]
    exact h i hi
theorem nine_set {W : World} {g : Nat} (v : Bool) (r0 r1 r2 r3 r4 r5 r6 r7 : Int) (K : Blk9 W g) : Nine (((((((((W.setCell ⟨g, 0, none⟩ (.bool v)).setCell ⟨g, 1, none⟩ (.int .u64 r0)).setCell ⟨g, 2, none⟩ (.int .u64 r1)).setCell ⟨g, 3, none⟩ (.int .u64 r2)).setCell ⟨g, 4, none⟩ (.int .u64 r3)).setCell ⟨g, 5, none⟩ (.int .u64 r4)).setCell ⟨g, 6, none⟩ (.int .u64 r5)).setCell ⟨g, 7, none⟩ (.int .u64 r6)).setCell ⟨g, 8, none⟩ (.int .u64 r7)) g v r0 r1 r2 r3 r4 r5 r6 r7 := by
  obtain ⟨k0, k1, k2, k3, k4, k5, k6, k7, k8⟩ := K.c
  have h0 : Has W g 9 (fun i => if i = 0 then .bool false else .int .u64 0) := by
    intro i hi
    match i, hi with
    | 0, _ => exact k0
    | 1, _ => exact k1
    | 2, _ => exact k2
    | 3, _ => exact k3
    | 4, _ => exact k4
    | 5, _ => exact k5
    | 6, _ => exact k6
    | 7, _ => exact k7
    | 8, _ => exact k8
  have h := has_set (has_set (has_set (has_set (has_set (has_set (has_set (has_set (has_set h0 (k := 0) (v := .bool v) (by omega)) (k := 1) (v := .int .u64 r0) (by omega)) (k := 2) (v := .int .u64 r1) (by omega)) (k := 3) (v := .int .u64 r2) (by omega)) (k := 4) (v := .int .u64 r3) (by omega)) (k := 5) (v := .int .u64 r4) (by omega)) (k := 6) (v := .int .u64 r5) (by omega)) (k := 7) (v := .int .u64 r6) (by omega)) (k := 8) (v := .int .u64 r7) (by omega)
  unfold Nine
  refine ⟨?_, ?_, ?_, ?_, ?_, ?_, ?_, ?_, ?_⟩
  · exact (h 0 (by omega)).trans (by simp)
  · exact (h 1 (by omega)).trans (by simp)
  · exact (h 2 (by omega)).trans (by simp)
  · exact (h 3 (by omega)).trans (by simp)
  · exact (h 4 (by omega)).trans (by simp)
  · exact (h 5 (by omega)).trans (by simp)
  · exact (h 6 (by omega)).trans (by simp)
  · exact (h 7 (by omega)).trans (by simp)
  · exact (h 8 (by omega)).trans (by simp)

theorem nine_new (W : World) (v : Bool) (r0 r1 r2 r3 r4 r5 r6 r7 : Int) (t : TypeId) : Nine (W.alloc (.cells #[.bool v, .int .u64 r0, .int .u64 r1, .int .u64 r2, .int .u64 r3, .int .u64 r4, .int .u64 r5, .int .u64 r6, .int .u64 r7] t)) W.heap.size v r0 r1 r2 r3 r4 r5 r6 r7 := by
  unfold Nine
  refine ⟨?_, ?_, ?_, ?_, ?_, ?_, ?_, ?_, ?_⟩ <;> (rw [World.cell?_alloc_at _ _ _ _ rfl]; rfl)

theorem below_nine {B : Nat} {W0 W : World} {g : Nat} (v : Bool) (r0 r1 r2 r3 r4 r5 r6 r7 : Int) (h : Below B W0 W) (hg : B ≤ g) : Below B W0 (((((((((W.setCell ⟨g, 0, none⟩ (.bool v)).setCell ⟨g, 1, none⟩ (.int .u64 r0)).setCell ⟨g, 2, none⟩ (.int .u64 r1)).setCell ⟨g, 3, none⟩ (.int .u64 r2)).setCell ⟨g, 4, none⟩ (.int .u64 r3)).setCell ⟨g, 5, none⟩ (.int .u64 r4)).setCell ⟨g, 6, none⟩ (.int .u64 r5)).setCell ⟨g, 7, none⟩ (.int .u64 r6)).setCell ⟨g, 8, none⟩ (.int .u64 r7)) :=
  ((((((((h.setCell hg _).setCell hg _).setCell hg _).setCell hg _).setCell hg _).setCell hg _).setCell hg _).setCell hg _).setCell hg _

/-- the two arguments' boxes, and the answer's -/
abbrev raW (h1 l1 h2 l2 : Int) (w : World) : World :=
  ((w.alloc (.cells #[.int .i64 h1, .int .u64 l1] 56)).alloc (.cells #[.int .i64 h2, .int .u64 l2] 56)).alloc (.cells #[.int .i64 0, .int .u64 0] 56)

/-- what the loads read stands in every world that is the same below -/
theorem ra_held {h1 l1 h2 l2 : Int} {w w' : World} (h : Below (w.heap.size + 3) (raW h1 l1 h2 l2 w) w') : Below (w.heap.size + 3) (raW h1 l1 h2 l2 w) w' ∧
    w'.cell? ⟨w.heap.size, 0, none⟩ = some (.int .i64 h1) ∧ w'.cell? ⟨w.heap.size, 1, none⟩ = some (.int .u64 l1) ∧ w'.cell? ⟨w.heap.size + 1, 0, none⟩ = some (.int .i64 h2) ∧ w'.cell? ⟨w.heap.size + 1, 1, none⟩ = some (.int .u64 l2) := by
  refine ⟨h, ?_, ?_, ?_, ?_⟩
  · rw [h.cell (p := ⟨w.heap.size, 0, none⟩) (by simp)]; simp [raW, go_sem]
  · rw [h.cell (p := ⟨w.heap.size, 1, none⟩) (by simp)]; simp [raW, go_sem]
  · rw [h.cell (p := ⟨w.heap.size + 1, 0, none⟩) (by simp)]; simp [raW, go_sem]
  · rw [h.cell (p := ⟨w.heap.size + 1, 1, none⟩) (by simp)]; simp [raW, go_sem]

theorem ra_res {h1 l1 h2 l2 : Int} {w w' : World} (h : Below (w.heap.size + 3) (raW h1 l1 h2 l2 w) w') :
    w'.cell? ⟨w.heap.size + 1 + 1, 0, none⟩ = some (.int .i64 0) ∧ w'.cell? ⟨w.heap.size + 1 + 1, 1, none⟩ = some (.int .u64 0) ∧
    w'.frozen? ⟨w.heap.size + 1 + 1, 0, none⟩ = false ∧ w'.frozen? ⟨w.heap.size + 1 + 1, 1, none⟩ = false ∧ w.heap.size + 1 + 1 < w'.heap.size ∧ Below w.heap.size w w' := by
  refine ⟨?_, ?_, ?_, ?_, ?_, ?_⟩
  · rw [h.cell (p := ⟨w.heap.size + 1 + 1, 0, none⟩) (by simp)]; simp [raW, go_sem]
  · rw [h.cell (p := ⟨w.heap.size + 1 + 1, 1, none⟩) (by simp)]; simp [raW, go_sem]
  · rw [h.frozen (p := ⟨w.heap.size + 1 + 1, 0, none⟩) (by simp)]; simp [raW, go_sem]
  · rw [h.frozen (p := ⟨w.heap.size + 1 + 1, 1, none⟩) (by simp)]; simp [raW, go_sem]
  · have := h.size; simp [raW] at this; omega
  · refine Below.trans ?_ (h.mono (by omega))
    exact (((Below.refl _ _).alloc (Nat.le_refl _) _).alloc (by simp) _).alloc (by simp <;> omega) _

theorem below_alloc {B : Nat} {W0 W : World} (hB : B ≤ W0.heap.size) (h : Below B W0 W) (o : Obj) : Below B W0 (W.alloc o) := h.alloc (Nat.le_trans hB h.size) o

/-- what the region leaves: the number of the sum in block g, and whether there were digits enough -/
def AddMid (sum : Int) (w : World) (s6 s7 : Value) (wx : World) : Prop :=
  ∃ (g : Nat) (v : Bool) (z r0 r1 r2 r3 r4 r5 r6 r7 : Int) (ok : Bool), s6 = .pointer (some ⟨g, 0, none⟩) ∧ s7 = .bool ok ∧ D8 z r0 r1 r2 r3 r4 r5 r6 r7 ∧ ((ok = true ∧ sgn v z = sum) ∨ (ok = false ∧ ¬ Fits sum)) ∧ Nine wx g v r0 r1 r2 r3 r4 r5 r6 r7 ∧
    wx.cell? ⟨w.heap.size + 1 + 1, 0, none⟩ = some (.int .i64 0) ∧ wx.cell? ⟨w.heap.size + 1 + 1, 1, none⟩ = some (.int .u64 0) ∧
    wx.frozen? ⟨w.heap.size + 1 + 1, 0, none⟩ = false ∧ wx.frozen? ⟨w.heap.size + 1 + 1, 1, none⟩ = false ∧ w.heap.size + 1 + 1 < wx.heap.size ∧ Below w.heap.size w wx

theorem mid_set {sum h1 l1 h2 l2 : Int} {w W : World} {g : Nat} {v : Bool} {z r0 r1 r2 r3 r4 r5 r6 r7 : Int} {ok : Bool} (K : Blk9 W g) (hB : Below (w.heap.size + 3) (raW h1 l1 h2 l2 w) W) (hg : w.heap.size + 3 ≤ g)
    (dz : D8 z r0 r1 r2 r3 r4 r5 r6 r7) (fin : (ok = true ∧ sgn v z = sum) ∨ (ok = false ∧ ¬ Fits sum)) : AddMid sum w (.pointer (some ⟨g, 0, none⟩)) (.bool ok) (((((((((W.setCell ⟨g, 0, none⟩ (.bool v)).setCell ⟨g, 1, none⟩ (.int .u64 r0)).setCell ⟨g, 2, none⟩ (.int .u64 r1)).setCell ⟨g, 3, none⟩ (.int .u64 r2)).setCell ⟨g, 4, none⟩ (.int .u64 r3)).setCell ⟨g, 5, none⟩ (.int .u64 r4)).setCell ⟨g, 6, none⟩ (.int .u64 r5)).setCell ⟨g, 7, none⟩ (.int .u64 r6)).setCell ⟨g, 8, none⟩ (.int .u64 r7)) :=
  ⟨g, v, z, r0, r1, r2, r3, r4, r5, r6, r7, ok, rfl, rfl, dz, fin, nine_set v r0 r1 r2 r3 r4 r5 r6 r7 K, ra_res (below_nine v r0 r1 r2 r3 r4 r5 r6 r7 hB hg)⟩
theorem mid_new {sum h1 l1 h2 l2 : Int} {w W : World} {v : Bool} {z r0 r1 r2 r3 r4 r5 r6 r7 : Int} {ok : Bool} {t : TypeId} (hB : Below (w.heap.size + 3) (raW h1 l1 h2 l2 w) W)
    (dz : D8 z r0 r1 r2 r3 r4 r5 r6 r7) (fin : (ok = true ∧ sgn v z = sum) ∨ (ok = false ∧ ¬ Fits sum)) : AddMid sum w (.pointer (some ⟨W.heap.size, 0, none⟩)) (.bool ok) (W.alloc (.cells #[.bool v, .int .u64 r0, .int .u64 r1, .int .u64 r2, .int .u64 r3, .int .u64 r4, .int .u64 r5, .int .u64 r6, .int .u64 r7] t)) :=
  ⟨_, v, z, r0, r1, r2, r3, r4, r5, r6, r7, ok, rfl, rfl, dz, fin, nine_new _ v r0 r1 r2 r3 r4 r5 r6 r7 _, ra_res (below_alloc (by simp [raW]) hB _)⟩

set_option maxHeartbeats 4000000 in
theorem rAdd_tells (h1 l1 h2 l2 : Int) (w : World) (b1 : Bd h1 l1) (b2 : Bd h2 l2) :
    Calls Tryd.prog 33 #[.agg #[.int .i64 h1, .int .u64 l1], .agg #[.int .i64 h2, .int .u64 l2]] w (Tells (num h1 l1 + num h2 l2) w) := by
  obtain ⟨n0, n1, n2⟩ := num_abs h1 l1 b1
  obtain ⟨m0, m1, m2⟩ := num_abs h2 l2 b2
  obtain ⟨x0, x1, x2, x3, x4, x5, x6, x7, D⟩ := d8_ex n0 n1
  obtain ⟨y0, y1, y2, y3, y4, y5, y6, y7, E⟩ := d8_ex m0 m1
  have co1 := fun w => of_to h1 l1 x0 x1 x2 x3 x4 x5 x6 x7 w b1 D
  have co2 := fun w => of_to h2 l2 y0 y1 y2 y3 y4 y5 y6 y7 w b2 E
  have cp := fun w => plus_tells (decide (h1 < 0)) (decide (h2 < 0)) ((num h1 l1).natAbs : Int) ((num h2 l2).natAbs : Int) x0 x1 x2 x3 x4 x5 x6 x7 y0 y1 y2 y3 y4 y5 y6 y7 w D E
  clear D E n1 m1 b1 b2
  have key : ∀ (v : Bool) (z : Int) (ok : Bool), ((ok = true ∧ sgn v z = sgn (decide (h1 < 0)) ((num h1 l1).natAbs : Int) + sgn (decide (h2 < 0)) ((num h2 l2).natAbs : Int)) ∨ (ok = false ∧ decide (h1 < 0) = decide (h2 < 0) ∧ 340282366920938463463374607431768211456 ≤ ((num h1 l1).natAbs : Int) + ((num h2 l2).natAbs : Int))) →
      ((ok = true ∧ sgn v z = num h1 l1 + num h2 l2) ∨ (ok = false ∧ ¬ Fits (num h1 l1 + num h2 l2))) := by
    intro v z ok r
    rcases r with ⟨h, h'⟩ | ⟨h, h', h''⟩
    · exact .inl ⟨h, by rw [h', n2, m2]⟩
    · refine .inr ⟨h, ?_⟩
      rw [← n2, ← m2, ← h']
      unfold Fits sgn
      split <;> omega
  clear n2 m2 n0 m0
  generalize ((num h1 l1).natAbs : Int) = x at *
  generalize ((num h2 l2).natAbs : Int) = y at *
  generalize num h1 l1 + num h2 l2 = sum at *
  replace key := Lib.hid key
  go_enter Tryd.func33, Tryd.ntmps33
  go_upto_region 1 with fail
  go_cut [6, 7] (fun s6 s7 wx => AddMid sum w s6 s7 wx)
  case first =>
    go_region_held3 (fun w' => Below (w.heap.size + 3) (raW h1 l1 h2 l2 w) w' ∧ w'.cell? ⟨w.heap.size, 0, none⟩ = some (.int .i64 h1) ∧ w'.cell? ⟨w.heap.size, 1, none⟩ = some (.int .u64 l1) ∧ w'.cell? ⟨w.heap.size + 1, 0, none⟩ = some (.int .i64 h2) ∧ w'.cell? ⟨w.heap.size + 1, 1, none⟩ = some (.int .u64 l2))
      ((refine ra_held ?_; first | (with_reducible assumption) | (with_reducible exact (Below.refl _ _).drew) | ((with_reducible refine Below.drew (below_alloc ?_ ?_ _)); (simp [raW]); (exact Below.refl _ _)) | ((with_reducible refine below_alloc ?_ ?_ _); (simp [raW]); assumption) | ((with_reducible refine below_nine _ _ _ _ _ _ _ _ _ ?_ ?_); assumption; first | omega | (simp <;> omega))))
      (first | (go_at_call 41; first | ((with_reducible refine (co1 _).mono ?_); rintro e w1 ⟨rfl, hb⟩; have hB := below_step (B := w.heap.size + 3) (W0 := raW h1 l1 h2 l2 w) (by simp [raW]) (by with_reducible assumption) hb; have hz : w.heap.size + 3 ≤ w1.heap.size := (by have := hB.size; simp [raW] at this; omega); (first | (have K := Blk9.kept (by with_reducible assumption) hb) | (have K := Blk9.kept (by with_reducible exact Blk9.newD _ _) hb) | (have K := Blk9.kept (by with_reducible exact Blk9.new _ _) hb) | skip); (try simp only [World.size_alloc] at K); (try (obtain ⟨⟨k0, k1, k2, k3, k4, k5, k6, k7, k8⟩, kf⟩ := (⟨K.c, K.f⟩ : _ ∧ _)))) | ((with_reducible refine (co2 _).mono ?_); rintro e w1 ⟨rfl, hb⟩; have hB := below_step (B := w.heap.size + 3) (W0 := raW h1 l1 h2 l2 w) (by simp [raW]) (by with_reducible assumption) hb; have hz : w.heap.size + 3 ≤ w1.heap.size := (by have := hB.size; simp [raW] at this; omega); (first | (have K := Blk9.kept (by with_reducible assumption) hb) | (have K := Blk9.kept (by with_reducible exact Blk9.newD _ _) hb) | (have K := Blk9.kept (by with_reducible exact Blk9.new _ _) hb) | skip); (try simp only [World.size_alloc] at K); (try (obtain ⟨⟨k0, k1, k2, k3, k4, k5, k6, k7, k8⟩, kf⟩ := (⟨K.c, K.f⟩ : _ ∧ _))))) | (go_at_call 43; (with_reducible refine (cp _).mono ?_); rintro e w1 ⟨v, z, r0, r1, r2, r3, r4, r5, r6, r7, ok, rfl, dz, rr, hb⟩; have hB := below_step (B := w.heap.size + 3) (W0 := raW h1 l1 h2 l2 w) (by simp [raW]) (by with_reducible assumption) hb; have hz : w.heap.size + 3 ≤ w1.heap.size := (by have := hB.size; simp [raW] at this; omega); (first | (have K := Blk9.kept (by with_reducible assumption) hb) | (have K := Blk9.kept (by with_reducible exact Blk9.newD _ _) hb) | (have K := Blk9.kept (by with_reducible exact Blk9.new _ _) hb) | skip); (try simp only [World.size_alloc] at K); (try (obtain ⟨⟨k0, k1, k2, k3, k4, k5, k6, k7, k8⟩, kf⟩ := (⟨K.c, K.f⟩ : _ ∧ _)))))
    all_goals go_wp2_with fail
    all_goals go_meet
    all_goals
      first
        | ((with_reducible refine mid_set K hB ?_ dz (key.out v z ok rr)); first | omega | (simp <;> omega))
        | (with_reducible exact mid_new hB dz (key.out v z ok rr))
  case rest =>
    obtain ⟨g, v, z, r0, r1, r2, r3, r4, r5, r6, r7, ok, rfl, rfl, dz, rr, ⟨c0, c1, c2, c3, c4, c5, c6, c7, c8⟩, k0, k1, f0, f1, z0, B1⟩ := hcut
    have cb := fun w => back_tells v z r0 r1 r2 r3 r4 r5 r6 r7 w dz
    clear dz co1 co2 cp key
    go_wp2_with fail
    refine (cb _).mono ?_
    rintro e w1 ⟨h, l, is, rfl, r, hb1⟩
    have q0 := (hb1.cell (p := ⟨w.heap.size + 1 + 1, 0, none⟩) z0).trans k0
    have q1 := (hb1.cell (p := ⟨w.heap.size + 1 + 1, 1, none⟩) z0).trans k1
    have p0 := (hb1.frozen (p := ⟨w.heap.size + 1 + 1, 0, none⟩) z0).trans f0
    have p1 := (hb1.frozen (p := ⟨w.heap.size + 1 + 1, 1, none⟩) z0).trans f1
    have z1 := Nat.lt_of_lt_of_le z0 hb1.size
    have B2 : Below w.heap.size w w1 := bthen B1 hb1
    clear hb1 c0 c1 c2 c3 c4 c5 c6 c7 c8 k0 k1 f0 f1 cb B1
    have fin : (ok = true ∧ is = true ∧ Res sum h l 0) ∨ ((ok = false ∨ (ok = true ∧ is = false)) ∧ ¬ Fits sum) := by
      rcases rr with ⟨rfl, e⟩ | ⟨rfl, e⟩
      · rw [e] at r
        rcases r with ⟨rfl, r⟩ | ⟨rfl, r⟩
        · exact .inl ⟨rfl, rfl, r⟩
        · exact .inr ⟨.inr ⟨rfl, rfl⟩, r⟩
      · exact .inr ⟨.inl rfl, e⟩
    clear rr r z0
    rcases fin with ⟨rfl, rfl, r⟩ | ⟨rfl | ⟨rfl, rfl⟩, r⟩
    · replace r := Lib.hid r
      go_wp2
      refine bodyPost_ret (v := .tuple #[.agg #[.int .i64 h, .int .u64 l], .int .i64 0]) (by simp [results, Tryd.results33, go_sem, q0, q1, z1]) rfl ⟨h, l, 0, rfl, r.out, ?_⟩
      repeat (first | exact B2 | refine Below.setCell ?_ (by simp <;> omega) _ | refine Below.alloc ?_ (by simp <;> omega) _)
    all_goals
      replace r := Lib.hid r
      go_wp2
      refine bodyPost_ret (v := .tuple #[.agg #[.int .i64 0, .int .u64 0], .int .i64 2]) (by simp [results, Tryd.results33, go_sem, q0, q1, z1]) rfl ⟨0, 0, 2, rfl, Or.inr ⟨rfl, rfl, rfl, r.out⟩, ?_⟩
      repeat (first | exact B2 | refine Below.setCell ?_ (by simp <;> omega) _ | refine Below.alloc ?_ (by simp <;> omega) _)

theorem rAdd_any (h1 l1 h2 l2 h l er : Int) (w : World) (b1 : Bd h1 l1) (b2 : Bd h2 l2) (r : Res (num h1 l1 + num h2 l2) h l er) :
    Calls Tryd.prog 33 #[.agg #[.int .i64 h1, .int .u64 l1], .agg #[.int .i64 h2, .int .u64 l2]] w fun e w' =>
      e = .returned (.tuple #[.agg #[.int .i64 h, .int .u64 l], .int .i64 er]) ∧ Below w.heap.size w w' :=
  (rAdd_tells h1 l1 h2 l2 w b1 b2).mono fun e w' ⟨h', l', er', he, r', hb⟩ => by
    obtain ⟨rfl, rfl, rfl⟩ := res_unique r r'
    exact ⟨he, hb⟩

end Go.Proofs.YtfjckgnclhpmcaaDoor.Vr

/- Plain facts on products digit by digit; nothing of the program. -/
namespace Go.Proofs.YtfjckgnclhpmcaaDoor.Vm
set_option linter.unusedSimpArgs false
set_option linter.unusedVariables false
open Go.RowKit

theorem tstep {t : Int} (h0 : 0 ≤ t) (h1 : t ≤ 4294967295) : ∃ r m : Int, t % 65536 = r ∧ t / 65536 = m ∧ 0 ≤ r ∧ r ≤ 65535 ∧ 0 ≤ m ∧ m ≤ 65535 ∧ t = r + 65536 * m :=
  ⟨t % 65536, t / 65536, rfl, rfl, by omega, by omega, by omega, by omega, by omega⟩

theorem dig_prod {x y : Int} (hx0 : 0 ≤ x) (hx : x ≤ 65535) (hy0 : 0 ≤ y) (hy : y ≤ 65535) : ∃ g, x * y = g ∧ 0 ≤ g ∧ g ≤ 4294836225 := by
  refine ⟨x * y, rfl, Int.mul_nonneg hx0 hy0, ?_⟩
  have h1 : x * y ≤ 65535 * y := Int.mul_le_mul_of_nonneg_right hx hy0
  omega

theorem mul_ex {x y x0 x1 x2 x3 y0 y1 y2 y3 : Int} (a0 : Dg x0) (a1 : Dg x1) (a2 : Dg x2) (a3 : Dg x3) (b0 : Dg y0) (b1 : Dg y1) (b2 : Dg y2) (b3 : Dg y3) (ex : x = x0 + x1 * 65536 + x2 * 4294967296 + x3 * 281474976710656) (ey : y = y0 + y1 * 65536 + y2 * 4294967296 + y3 * 281474976710656) :
    ∃ g00 g01 g02 g03 g10 g11 g12 g13 g20 g21 g22 g23 g30 g31 g32 g33 r00 r01 r02 r03 r10 r11 r12 r13 r20 r21 r22 r23 r30 r31 r32 r33 c00 c01 c02 c03 c10 c11 c12 c13 c20 c21 c22 c23 c30 c31 c32 c33 : Int, Hid (x0 * y0 = g00 ∧ 0 ≤ g00 ∧ g00 ≤ 4294836225 ∧ (g00) % 65536 = r00 ∧ (g00) / 65536 = c00 ∧ 0 ≤ c00 ∧ c00 ≤ 65535) ∧ Hid (x0 * y1 = g01 ∧ 0 ≤ g01 ∧ g01 ≤ 4294836225 ∧ (c00 + g01) % 65536 = r01 ∧ (c00 + g01) / 65536 = c01 ∧ 0 ≤ c01 ∧ c01 ≤ 65535 ∧ 0 ≤ c00 ∧ c00 ≤ 65535) ∧ Hid (x0 * y2 = g02 ∧ 0 ≤ g02 ∧ g02 ≤ 4294836225 ∧ (c01 + g02) % 65536 = r02 ∧ (c01 + g02) / 65536 = c02 ∧ 0 ≤ c02 ∧ c02 ≤ 65535 ∧ 0 ≤ c01 ∧ c01 ≤ 65535) ∧ Hid (x0 * y3 = g03 ∧ 0 ≤ g03 ∧ g03 ≤ 4294836225 ∧ (c02 + g03) % 65536 = r03 ∧ (c02 + g03) / 65536 = c03 ∧ 0 ≤ c03 ∧ c03 ≤ 65535 ∧ 0 ≤ c02 ∧ c02 ≤ 65535) ∧ Hid (x1 * y0 = g10 ∧ 0 ≤ g10 ∧ g10 ≤ 4294836225 ∧ (r01 + g10) % 65536 = r10 ∧ (r01 + g10) / 65536 = c10 ∧ 0 ≤ c10 ∧ c10 ≤ 65535 ∧ 0 ≤ r01 ∧ r01 ≤ 65535) ∧ Hid (x1 * y1 = g11 ∧ 0 ≤ g11 ∧ g11 ≤ 4294836225 ∧ (c10 + (r02 + g11)) % 65536 = r11 ∧ (c10 + (r02 + g11)) / 65536 = c11 ∧ 0 ≤ c11 ∧ c11 ≤ 65535 ∧ 0 ≤ c10 ∧ c10 ≤ 65535 ∧ 0 ≤ r02 ∧ r02 ≤ 65535) ∧ Hid (x1 * y2 = g12 ∧ 0 ≤ g12 ∧ g12 ≤ 4294836225 ∧ (c11 + (r03 + g12)) % 65536 = r12 ∧ (c11 + (r03 + g12)) / 65536 = c12 ∧ 0 ≤ c12 ∧ c12 ≤ 65535 ∧ 0 ≤ c11 ∧ c11 ≤ 65535 ∧ 0 ≤ r03 ∧ r03 ≤ 65535) ∧ Hid (x1 * y3 = g13 ∧ 0 ≤ g13 ∧ g13 ≤ 4294836225 ∧ (c12 + (c03 + g13)) % 65536 = r13 ∧ (c12 + (c03 + g13)) / 65536 = c13 ∧ 0 ≤ c13 ∧ c13 ≤ 65535 ∧ 0 ≤ c12 ∧ c12 ≤ 65535 ∧ 0 ≤ c03 ∧ c03 ≤ 65535) ∧ Hid (x2 * y0 = g20 ∧ 0 ≤ g20 ∧ g20 ≤ 4294836225 ∧ (r11 + g20) % 65536 = r20 ∧ (r11 + g20) / 65536 = c20 ∧ 0 ≤ c20 ∧ c20 ≤ 65535 ∧ 0 ≤ r11 ∧ r11 ≤ 65535) ∧ Hid (x2 * y1 = g21 ∧ 0 ≤ g21 ∧ g21 ≤ 4294836225 ∧ (c20 + (r12 + g21)) % 65536 = r21 ∧ (c20 + (r12 + g21)) / 65536 = c21 ∧ 0 ≤ c21 ∧ c21 ≤ 65535 ∧ 0 ≤ c20 ∧ c20 ≤ 65535 ∧ 0 ≤ r12 ∧ r12 ≤ 65535) ∧ Hid (x2 * y2 = g22 ∧ 0 ≤ g22 ∧ g22 ≤ 4294836225 ∧ (c21 + (r13 + g22)) % 65536 = r22 ∧ (c21 + (r13 + g22)) / 65536 = c22 ∧ 0 ≤ c22 ∧ c22 ≤ 65535 ∧ 0 ≤ c21 ∧ c21 ≤ 65535 ∧ 0 ≤ r13 ∧ r13 ≤ 65535) ∧ Hid (x2 * y3 = g23 ∧ 0 ≤ g23 ∧ g23 ≤ 4294836225 ∧ (c22 + (c13 + g23)) % 65536 = r23 ∧ (c22 + (c13 + g23)) / 65536 = c23 ∧ 0 ≤ c23 ∧ c23 ≤ 65535 ∧ 0 ≤ c22 ∧ c22 ≤ 65535 ∧ 0 ≤ c13 ∧ c13 ≤ 65535) ∧ Hid (x3 * y0 = g30 ∧ 0 ≤ g30 ∧ g30 ≤ 4294836225 ∧ (r21 + g30) % 65536 = r30 ∧ (r21 + g30) / 65536 = c30 ∧ 0 ≤ c30 ∧ c30 ≤ 65535 ∧ 0 ≤ r21 ∧ r21 ≤ 65535) ∧ Hid (x3 * y1 = g31 ∧ 0 ≤ g31 ∧ g31 ≤ 4294836225 ∧ (c30 + (r22 + g31)) % 65536 = r31 ∧ (c30 + (r22 + g31)) / 65536 = c31 ∧ 0 ≤ c31 ∧ c31 ≤ 65535 ∧ 0 ≤ c30 ∧ c30 ≤ 65535 ∧ 0 ≤ r22 ∧ r22 ≤ 65535) ∧ Hid (x3 * y2 = g32 ∧ 0 ≤ g32 ∧ g32 ≤ 4294836225 ∧ (c31 + (r23 + g32)) % 65536 = r32 ∧ (c31 + (r23 + g32)) / 65536 = c32 ∧ 0 ≤ c32 ∧ c32 ≤ 65535 ∧ 0 ≤ c31 ∧ c31 ≤ 65535 ∧ 0 ≤ r23 ∧ r23 ≤ 65535) ∧ Hid (x3 * y3 = g33 ∧ 0 ≤ g33 ∧ g33 ≤ 4294836225 ∧ (c32 + (c23 + g33)) % 65536 = r33 ∧ (c32 + (c23 + g33)) / 65536 = c33 ∧ 0 ≤ c33 ∧ c33 ≤ 65535 ∧ 0 ≤ c32 ∧ c32 ≤ 65535 ∧ 0 ≤ c23 ∧ c23 ≤ 65535) ∧ D8 (x * y) r00 r10 r20 r30 r31 r32 r33 c33 := by
  obtain ⟨g00, e00, l00, u00⟩ := dig_prod a0.1 a0.2 b0.1 b0.2
  obtain ⟨g01, e01, l01, u01⟩ := dig_prod a0.1 a0.2 b1.1 b1.2
  obtain ⟨g02, e02, l02, u02⟩ := dig_prod a0.1 a0.2 b2.1 b2.2
  obtain ⟨g03, e03, l03, u03⟩ := dig_prod a0.1 a0.2 b3.1 b3.2
  obtain ⟨g10, e10, l10, u10⟩ := dig_prod a1.1 a1.2 b0.1 b0.2
  obtain ⟨g11, e11, l11, u11⟩ := dig_prod a1.1 a1.2 b1.1 b1.2
  obtain ⟨g12, e12, l12, u12⟩ := dig_prod a1.1 a1.2 b2.1 b2.2
  obtain ⟨g13, e13, l13, u13⟩ := dig_prod a1.1 a1.2 b3.1 b3.2
  obtain ⟨g20, e20, l20, u20⟩ := dig_prod a2.1 a2.2 b0.1 b0.2
  obtain ⟨g21, e21, l21, u21⟩ := dig_prod a2.1 a2.2 b1.1 b1.2
  obtain ⟨g22, e22, l22, u22⟩ := dig_prod a2.1 a2.2 b2.1 b2.2
  obtain ⟨g23, e23, l23, u23⟩ := dig_prod a2.1 a2.2 b3.1 b3.2
  obtain ⟨g30, e30, l30, u30⟩ := dig_prod a3.1 a3.2 b0.1 b0.2
  obtain ⟨g31, e31, l31, u31⟩ := dig_prod a3.1 a3.2 b1.1 b1.2
  obtain ⟨g32, e32, l32, u32⟩ := dig_prod a3.1 a3.2 b2.1 b2.2
  obtain ⟨g33, e33, l33, u33⟩ := dig_prod a3.1 a3.2 b3.1 b3.2
  obtain ⟨r00, c00, p00, q00, s00, t00, v00, w00, z00⟩ := tstep (t := g00) (by omega) (by omega)
  obtain ⟨r01, c01, p01, q01, s01, t01, v01, w01, z01⟩ := tstep (t := c00 + g01) (by omega) (by omega)
  obtain ⟨r02, c02, p02, q02, s02, t02, v02, w02, z02⟩ := tstep (t := c01 + g02) (by omega) (by omega)
  obtain ⟨r03, c03, p03, q03, s03, t03, v03, w03, z03⟩ := tstep (t := c02 + g03) (by omega) (by omega)
  obtain ⟨r10, c10, p10, q10, s10, t10, v10, w10, z10⟩ := tstep (t := r01 + g10) (by omega) (by omega)
  obtain ⟨r11, c11, p11, q11, s11, t11, v11, w11, z11⟩ := tstep (t := c10 + (r02 + g11)) (by omega) (by omega)
  obtain ⟨r12, c12, p12, q12, s12, t12, v12, w12, z12⟩ := tstep (t := c11 + (r03 + g12)) (by omega) (by omega)
  obtain ⟨r13, c13, p13, q13, s13, t13, v13, w13, z13⟩ := tstep (t := c12 + (c03 + g13)) (by omega) (by omega)
  obtain ⟨r20, c20, p20, q20, s20, t20, v20, w20, z20⟩ := tstep (t := r11 + g20) (by omega) (by omega)
  obtain ⟨r21, c21, p21, q21, s21, t21, v21, w21, z21⟩ := tstep (t := c20 + (r12 + g21)) (by omega) (by omega)
  obtain ⟨r22, c22, p22, q22, s22, t22, v22, w22, z22⟩ := tstep (t := c21 + (r13 + g22)) (by omega) (by omega)
  obtain ⟨r23, c23, p23, q23, s23, t23, v23, w23, z23⟩ := tstep (t := c22 + (c13 + g23)) (by omega) (by omega)
  obtain ⟨r30, c30, p30, q30, s30, t30, v30, w30, z30⟩ := tstep (t := r21 + g30) (by omega) (by omega)
  obtain ⟨r31, c31, p31, q31, s31, t31, v31, w31, z31⟩ := tstep (t := c30 + (r22 + g31)) (by omega) (by omega)
  obtain ⟨r32, c32, p32, q32, s32, t32, v32, w32, z32⟩ := tstep (t := c31 + (r23 + g32)) (by omega) (by omega)
  obtain ⟨r33, c33, p33, q33, s33, t33, v33, w33, z33⟩ := tstep (t := c32 + (c23 + g33)) (by omega) (by omega)
  have eY : ∀ k : Int, k * (y0 + y1 * 65536 + y2 * 4294967296 + y3 * 281474976710656) = k * y0 + k * y1 * 65536 + k * y2 * 4294967296 + k * y3 * 281474976710656 := by
    intro k; simp only [Int.mul_add, ← Int.mul_assoc]
  have eX : x * y = x0 * y + x1 * y * 65536 + x2 * y * 4294967296 + x3 * y * 281474976710656 := by
    rw [ex, Int.add_mul, Int.add_mul, Int.add_mul, Int.mul_right_comm x1, Int.mul_right_comm x2, Int.mul_right_comm x3]
  have f0 : x0 * y = g00 + g01 * 65536 + g02 * 4294967296 + g03 * 281474976710656 := by rw [ey, eY, e00, e01, e02, e03]
  have f1 : x1 * y = g10 + g11 * 65536 + g12 * 4294967296 + g13 * 281474976710656 := by rw [ey, eY, e10, e11, e12, e13]
  have f2 : x2 * y = g20 + g21 * 65536 + g22 * 4294967296 + g23 * 281474976710656 := by rw [ey, eY, e20, e21, e22, e23]
  have f3 : x3 * y = g30 + g31 * 65536 + g32 * 4294967296 + g33 * 281474976710656 := by rw [ey, eY, e30, e31, e32, e33]
  rw [f0, f1, f2, f3] at eX
  refine ⟨g00, g01, g02, g03, g10, g11, g12, g13, g20, g21, g22, g23, g30, g31, g32, g33, r00, r01, r02, r03, r10, r11, r12, r13, r20, r21, r22, r23, r30, r31, r32, r33, c00, c01, c02, c03, c10, c11, c12, c13, c20, c21, c22, c23, c30, c31, c32, c33, Lib.hid ⟨e00, l00, u00, p00, q00, v00, w00⟩, Lib.hid ⟨e01, l01, u01, p01, q01, v01, w01, v00, w00⟩, Lib.hid ⟨e02, l02, u02, p02, q02, v02, w02, v01, w01⟩, Lib.hid ⟨e03, l03, u03, p03, q03, v03, w03, v02, w02⟩, Lib.hid ⟨e10, l10, u10, p10, q10, v10, w10, s01, t01⟩, Lib.hid ⟨e11, l11, u11, p11, q11, v11, w11, v10, w10, s02, t02⟩, Lib.hid ⟨e12, l12, u12, p12, q12, v12, w12, v11, w11, s03, t03⟩, Lib.hid ⟨e13, l13, u13, p13, q13, v13, w13, v12, w12, v03, w03⟩, Lib.hid ⟨e20, l20, u20, p20, q20, v20, w20, s11, t11⟩, Lib.hid ⟨e21, l21, u21, p21, q21, v21, w21, v20, w20, s12, t12⟩, Lib.hid ⟨e22, l22, u22, p22, q22, v22, w22, v21, w21, s13, t13⟩, Lib.hid ⟨e23, l23, u23, p23, q23, v23, w23, v22, w22, v13, w13⟩, Lib.hid ⟨e30, l30, u30, p30, q30, v30, w30, s21, t21⟩, Lib.hid ⟨e31, l31, u31, p31, q31, v31, w31, v30, w30, s22, t22⟩, Lib.hid ⟨e32, l32, u32, p32, q32, v32, w32, v31, w31, s23, t23⟩, Lib.hid ⟨e33, l33, u33, p33, q33, v33, w33, v32, w32, v23, w23⟩, ?_⟩
  refine ⟨⟨s00, t00⟩, ⟨s10, t10⟩, ⟨s20, t20⟩, ⟨s30, t30⟩, ⟨s31, t31⟩, ⟨s32, t32⟩, ⟨s33, t33⟩, ⟨v33, w33⟩, ?_⟩
  clear e00 p00 q00 l00 u00 s00 t00 v00 w00 e01 p01 q01 l01 u01 s01 t01 v01 w01 e02 p02 q02 l02 u02 s02 t02 v02 w02 e03 p03 q03 l03 u03 s03 t03 v03 w03 e10 p10 q10 l10 u10 s10 t10 v10 w10 e11 p11 q11 l11 u11 s11 t11 v11 w11 e12 p12 q12 l12 u12 s12 t12 v12 w12 e13 p13 q13 l13 u13 s13 t13 v13 w13 e20 p20 q20 l20 u20 s20 t20 v20 w20 e21 p21 q21 l21 u21 s21 t21 v21 w21 e22 p22 q22 l22 u22 s22 t22 v22 w22 e23 p23 q23 l23 u23 s23 t23 v23 w23 e30 p30 q30 l30 u30 s30 t30 v30 w30 e31 p31 q31 l31 u31 s31 t31 v31 w31 e32 p32 q32 l32 u32 s32 t32 v32 w32 e33 p33 q33 l33 u33 s33 t33 v33 w33 ex ey eY f0 f1 f2 f3 a0 a1 a2 a3 b0 b1 b2 b3
  omega

end Go.Proofs.YtfjckgnclhpmcaaDoor.Vm

/- What Mul of the reference of layer 2 comes to. -/
namespace Go.Proofs.YtfjckgnclhpmcaaDoor.Vr
set_option linter.unusedSimpArgs false
set_option linter.unusedVariables false
open Go.RowKit Go.Proofs.YtfjckgnclhpmcaaDoor.Vm Go.Proofs.YtfjckgnclhpmcaaDoor.Vc Go.Proofs.YtfjckgnclhpmcaaDoor.Vl
attribute [local go_sem] alloc_drewN setCell_drewN

set_option maxHeartbeats 4000000

/-- the four digits of a size -/
theorem d4_ex {x : Int} (h0 : 0 ≤ x) (h1 : x ≤ 9223372036854775808) : ∃ d0 d1 d2 d3 : Int, Dg d0 ∧ Dg d1 ∧ Dg d2 ∧ Dg d3 ∧ x = d0 + d1 * 65536 + d2 * 4294967296 + d3 * 281474976710656 ∧ D8 (num 0 x) d0 d1 d2 d3 0 0 0 0 := by
  refine ⟨x % 65536, x / 65536 % 65536, x / 4294967296 % 65536, x / 281474976710656 % 65536, ?_⟩
  unfold D8 Dg num
  omega

theorem sgn_prod (a b : Int) (s : Bool) (hs : (decide (a < 0) != decide (b < 0)) = s) : sgn s ((a.natAbs : Int) * (b.natAbs : Int)) = a * b := by
  subst hs
  unfold sgn
  by_cases ha : a < 0 <;> by_cases hb : b < 0
  · simp only [ha, hb, decide_true, bne_self_eq_false, Bool.false_eq_true, if_false]
    exact prod_same (.inl ⟨ha, hb⟩)
  · simp only [ha, hb, decide_true, decide_false]
    rw [if_pos (by decide), prod_diff (.inl ⟨ha, by omega⟩), Int.neg_neg]
  · simp only [ha, hb, decide_true, decide_false]
    rw [if_pos (by decide), prod_diff (.inr ⟨by omega, hb⟩), Int.neg_neg]
  · simp only [ha, hb, decide_false, bne_self_eq_false, Bool.false_eq_true, if_false]
    exact prod_same (.inr ⟨by omega, by omega⟩)

/-- what a round's statement comes to, in the walk's own words -/
theorem pk0 {x y g r c : Int} (h : x * y = g ∧ 0 ≤ g ∧ g ≤ 4294836225 ∧ g % 65536 = r ∧ g / 65536 = c ∧ 0 ≤ c ∧ c ≤ 65535) :
    ∃ t, IntKind.u64.wrap (x * y) = t ∧ IntKind.u64.wrap t = t ∧ 0 ≤ t ∧ t ≤ 4294967295 ∧ t % 65536 = r ∧ t / 65536 = c ∧ t.tmod 65536 = r ∧ t.tdiv 65536 = c ∧ 0 ≤ r ∧ r ≤ 65535 ∧ 0 ≤ c ∧ c ≤ 65535 := by
  obtain ⟨e, h0, h1, hr, hc, h2, h3⟩ := h
  refine ⟨g, by rw [e, IntKind.wrap_u64]; omega, by rw [IntKind.wrap_u64]; omega, h0, by omega, hr, hc, by rw [Int.tmod_eq_emod_of_nonneg h0]; exact hr, by rw [Int.tdiv_eq_ediv_of_nonneg h0]; exact hc, by omega, by omega, h2, h3⟩
theorem pkm {x y m g r c : Int} (h : x * y = g ∧ 0 ≤ g ∧ g ≤ 4294836225 ∧ (m + g) % 65536 = r ∧ (m + g) / 65536 = c ∧ 0 ≤ c ∧ c ≤ 65535 ∧ 0 ≤ m ∧ m ≤ 65535) :
    ∃ s t, IntKind.u64.wrap (x * y) = s ∧ IntKind.u64.wrap s = s ∧ IntKind.u64.wrap (m + s) = t ∧ IntKind.u64.wrap t = t ∧ 0 ≤ t ∧ t ≤ 4294967295 ∧ t % 65536 = r ∧ t / 65536 = c ∧ t.tmod 65536 = r ∧ t.tdiv 65536 = c ∧ 0 ≤ r ∧ r ≤ 65535 ∧ 0 ≤ c ∧ c ≤ 65535 := by
  obtain ⟨e, h0, h1, hr, hc, h2, h3, h4, h5⟩ := h
  have ht : 0 ≤ m + g := by omega
  refine ⟨g, m + g, by rw [e, IntKind.wrap_u64]; omega, by rw [IntKind.wrap_u64]; omega, by rw [IntKind.wrap_u64]; omega, by rw [IntKind.wrap_u64]; omega, ht, by omega, hr, hc, by rw [Int.tmod_eq_emod_of_nonneg ht]; exact hr, by rw [Int.tdiv_eq_ediv_of_nonneg ht]; exact hc, by omega, by omega, h2, h3⟩
theorem pko {x y m o g r c : Int} (h : x * y = g ∧ 0 ≤ g ∧ g ≤ 4294836225 ∧ (m + (o + g)) % 65536 = r ∧ (m + (o + g)) / 65536 = c ∧ 0 ≤ c ∧ c ≤ 65535 ∧ 0 ≤ m ∧ m ≤ 65535 ∧ 0 ≤ o ∧ o ≤ 65535) :
    ∃ u s t, IntKind.u64.wrap (x * y) = u ∧ IntKind.u64.wrap (o + u) = s ∧ IntKind.u64.wrap (m + s) = t ∧ IntKind.u64.wrap t = t ∧ 0 ≤ t ∧ t ≤ 4294967295 ∧ t % 65536 = r ∧ t / 65536 = c ∧ t.tmod 65536 = r ∧ t.tdiv 65536 = c ∧ 0 ≤ r ∧ r ≤ 65535 ∧ 0 ≤ c ∧ c ≤ 65535 := by
  obtain ⟨e, h0, h1, hr, hc, h2, h3, h4, h5, h6, h7⟩ := h
  have ht : 0 ≤ m + (o + g) := by omega
  refine ⟨g, o + g, m + (o + g), by rw [e, IntKind.wrap_u64]; omega, by rw [IntKind.wrap_u64]; omega, by rw [IntKind.wrap_u64]; omega, by rw [IntKind.wrap_u64]; omega, ht, by omega, hr, hc, by rw [Int.tmod_eq_emod_of_nonneg ht]; exact hr, by rw [Int.tdiv_eq_ediv_of_nonneg ht]; exact hc, by omega, by omega, h2, h3⟩

theorem rMul_to (a b h l : Int) (w : World) (fa : Fit1 a) (fb : Fit1 b) (bd : Bd h l) (hn : num h l = a * b) :
    Calls Tryd.prog 34 #[.int .i64 a, .int .i64 b] w fun e w' => e = .returned (.agg #[.int .i64 h, .int .u64 l]) ∧ Below w.heap.size w w' := by
  obtain ⟨x0, x1, x2, x3, a0, a1, a2, a3, ex, DX⟩ := d4_ex (x := (a.natAbs : Int)) (by omega) (by unfold Fit1 at fa; omega)
  obtain ⟨y0, y1, y2, y3, b0, b1, b2, b3, ey, DY⟩ := d4_ex (x := (b.natAbs : Int)) (by omega) (by unfold Fit1 at fb; omega)
  have ca := fun w => rsize_any a w fa
  have cb := fun w => rsize_any b w fb
  have pa := fun s w => put_at s 0 (a.natAbs : Int) x0 x1 x2 x3 0 0 0 0 w (by omega) (by omega) (by omega) (by unfold Fit1 at fa; omega) DX
  have pb := fun s w => put_at s 0 (b.natAbs : Int) y0 y1 y2 y3 0 0 0 0 w (by omega) (by omega) (by omega) (by unfold Fit1 at fb; omega) DY
  obtain ⟨g00, g01, g02, g03, g10, g11, g12, g13, g20, g21, g22, g23, g30, g31, g32, g33, r00, r01, r02, r03, r10, r11, r12, r13, r20, r21, r22, r23, r30, r31, r32, r33, c00, c01, c02, c03, c10, c11, c12, c13, c20, c21, c22, c23, c30, c31, c32, c33, H00, H01, H02, H03, H10, H11, H12, H13, H20, H21, H22, H23, H30, H31, H32, H33, DR⟩ := mul_ex a0 a1 a2 a3 b0 b1 b2 b3 ex ey
  have bk := fun s w => back_tells s ((a.natAbs : Int) * (b.natAbs : Int)) r00 r10 r20 r30 r31 r32 r33 c33 w DR
  obtain ⟨sa, hsa⟩ : ∃ s, decide (a < 0) = s := ⟨_, rfl⟩
  obtain ⟨sb, hsb⟩ : ∃ s, decide (b < 0) = s := ⟨_, rfl⟩
  obtain ⟨so, hso⟩ : ∃ s, (!(sa == sb)) = s := ⟨_, rfl⟩
  have sp := sgn_prod a b so (by rw [hsa, hsb]; exact hso)
  have key : ∀ h' l' (is : Bool), ((is = true ∧ Res (sgn so ((a.natAbs : Int) * (b.natAbs : Int))) h' l' 0) ∨ (is = false ∧ ¬ Fits (sgn so ((a.natAbs : Int) * (b.natAbs : Int))))) → h = h' ∧ l = l' := by
    intro h' l' is r
    rw [sp] at r
    rcases r with ⟨_, r⟩ | ⟨_, r⟩
    · have := res_unique (Or.inl ⟨rfl, hn, bd⟩) r
      exact ⟨this.1, this.2.1⟩
    · exact absurd (hn ▸ bd_fits bd) r
  replace key := Lib.hid key
  clear ex ey DX DY DR sp hn bd fa fb a0 a1 a2 a3 b0 b1 b2 b3
  generalize (a.natAbs : Int) = x at *
  generalize (b.natAbs : Int) = y at *
  go_enter Tryd.func34, Tryd.ntmps34
  go_wp2_with fail
  refine (ca _).mono ?_
  rintro e w' ⟨rfl, rfl⟩
  go_wp2_with fail
  refine (pa _ _).mono ?_
  rintro e w' ⟨rfl, rfl⟩
  go_wp2_with fail
  refine (cb _).mono ?_
  rintro e w' ⟨rfl, rfl⟩
  go_wp2_with fail
  refine (pb _ _).mono ?_
  rintro e w' ⟨rfl, rfl⟩
  clear ca cb pa pb
  go_wp2
  refine wp_loop_rounds 5 ?_
  rw [rounds_succ]
  go_wp2
  refine wp_loop_rounds 5 ?_
  obtain ⟨t, h0, h1, h2, h3, h4, h5, h6, h7, h8, h9, h10, h11⟩ := pk0 H00.out
  rw [rounds_succ]
  go_wp2
  go_quiet (fail)
  go_wp2
  clear h0 h1 h2 h3 h4 h5 h6 h7 h8 h9 h10 h11 H00
  obtain ⟨s, t, h0, h1, h2, h3, h4, h5, h6, h7, h8, h9, h10, h11, h12, h13⟩ := pkm H01.out
  rw [rounds_succ]
  go_wp2
  go_quiet (fail)
  go_wp2
  clear h0 h1 h2 h3 h4 h5 h6 h7 h8 h9 h10 h11 h12 h13 H01
  obtain ⟨s, t, h0, h1, h2, h3, h4, h5, h6, h7, h8, h9, h10, h11, h12, h13⟩ := pkm H02.out
  rw [rounds_succ]
  go_wp2
  go_quiet (fail)
  go_wp2
  clear h0 h1 h2 h3 h4 h5 h6 h7 h8 h9 h10 h11 h12 h13 H02
  obtain ⟨s, t, h0, h1, h2, h3, h4, h5, h6, h7, h8, h9, h10, h11, h12, h13⟩ := pkm H03.out
  rw [rounds_succ]
  go_wp2
  go_quiet (fail)
  go_wp2
  rw [rounds_succ]
  go_wp2
  clear h0 h1 h2 h3 h4 h5 h6 h7 h8 h9 h10 h11 h12 h13 H03
  rw [rounds_succ]
  go_wp2
  refine wp_loop_rounds 5 ?_
  obtain ⟨s, t, h0, h1, h2, h3, h4, h5, h6, h7, h8, h9, h10, h11, h12, h13⟩ := pkm H10.out
  rw [rounds_succ]
  go_wp2
  go_quiet (fail)
  go_wp2
  clear h0 h1 h2 h3 h4 h5 h6 h7 h8 h9 h10 h11 h12 h13 H10
  obtain ⟨u, s, t, h0, h1, h2, h3, h4, h5, h6, h7, h8, h9, h10, h11, h12, h13⟩ := pko H11.out
  rw [rounds_succ]
  go_wp2
  go_quiet (fail)
  go_wp2
  clear h0 h1 h2 h3 h4 h5 h6 h7 h8 h9 h10 h11 h12 h13 H11
  obtain ⟨u, s, t, h0, h1, h2, h3, h4, h5, h6, h7, h8, h9, h10, h11, h12, h13⟩ := pko H12.out
  rw [rounds_succ]
  go_wp2
  go_quiet (fail)
  go_wp2
  clear h0 h1 h2 h3 h4 h5 h6 h7 h8 h9 h10 h11 h12 h13 H12
  obtain ⟨u, s, t, h0, h1, h2, h3, h4, h5, h6, h7, h8, h9, h10, h11, h12, h13⟩ := pko H13.out
  rw [rounds_succ]
  go_wp2
  go_quiet (fail)
  go_wp2
  rw [rounds_succ]
  go_wp2
  clear h0 h1 h2 h3 h4 h5 h6 h7 h8 h9 h10 h11 h12 h13 H13
  rw [rounds_succ]
  go_wp2
  refine wp_loop_rounds 5 ?_
  obtain ⟨s, t, h0, h1, h2, h3, h4, h5, h6, h7, h8, h9, h10, h11, h12, h13⟩ := pkm H20.out
  rw [rounds_succ]
  go_wp2
  go_quiet (fail)
  go_wp2
  clear h0 h1 h2 h3 h4 h5 h6 h7 h8 h9 h10 h11 h12 h13 H20
  obtain ⟨u, s, t, h0, h1, h2, h3, h4, h5, h6, h7, h8, h9, h10, h11, h12, h13⟩ := pko H21.out
  rw [rounds_succ]
  go_wp2
  go_quiet (fail)
  go_wp2
  clear h0 h1 h2 h3 h4 h5 h6 h7 h8 h9 h10 h11 h12 h13 H21
  obtain ⟨u, s, t, h0, h1, h2, h3, h4, h5, h6, h7, h8, h9, h10, h11, h12, h13⟩ := pko H22.out
  rw [rounds_succ]
  go_wp2
  go_quiet (fail)
  go_wp2
  clear h0 h1 h2 h3 h4 h5 h6 h7 h8 h9 h10 h11 h12 h13 H22
  obtain ⟨u, s, t, h0, h1, h2, h3, h4, h5, h6, h7, h8, h9, h10, h11, h12, h13⟩ := pko H23.out
  rw [rounds_succ]
  go_wp2
  go_quiet (fail)
  go_wp2
  rw [rounds_succ]
  go_wp2
  clear h0 h1 h2 h3 h4 h5 h6 h7 h8 h9 h10 h11 h12 h13 H23
  rw [rounds_succ]
  go_wp2
  refine wp_loop_rounds 5 ?_
  obtain ⟨s, t, h0, h1, h2, h3, h4, h5, h6, h7, h8, h9, h10, h11, h12, h13⟩ := pkm H30.out
  rw [rounds_succ]
  go_wp2
  go_quiet (fail)
  go_wp2
  clear h0 h1 h2 h3 h4 h5 h6 h7 h8 h9 h10 h11 h12 h13 H30
  obtain ⟨u, s, t, h0, h1, h2, h3, h4, h5, h6, h7, h8, h9, h10, h11, h12, h13⟩ := pko H31.out
  rw [rounds_succ]
  go_wp2
  go_quiet (fail)
  go_wp2
  clear h0 h1 h2 h3 h4 h5 h6 h7 h8 h9 h10 h11 h12 h13 H31
  obtain ⟨u, s, t, h0, h1, h2, h3, h4, h5, h6, h7, h8, h9, h10, h11, h12, h13⟩ := pko H32.out
  rw [rounds_succ]
  go_wp2
  go_quiet (fail)
  go_wp2
  clear h0 h1 h2 h3 h4 h5 h6 h7 h8 h9 h10 h11 h12 h13 H32
  obtain ⟨u, s, t, h0, h1, h2, h3, h4, h5, h6, h7, h8, h9, h10, h11, h12, h13⟩ := pko H33.out
  rw [rounds_succ]
  go_wp2
  go_quiet (fail)
  go_wp2
  rw [rounds_succ]
  go_wp2
  clear h0 h1 h2 h3 h4 h5 h6 h7 h8 h9 h10 h11 h12 h13 H33
  rw [rounds_succ]
  go_wp2_with fail
  refine (bk _ _).mono ?_
  rintro e w1 ⟨h', l', is, rfl, r, hb1⟩
  obtain ⟨rfl, rfl⟩ := key.out h' l' is r
  have z1 : w.heap.size < w1.heap.size := Nat.lt_of_lt_of_le (by simp <;> omega) hb1.size
  have k0 : w1.cell? ⟨w.heap.size, 0, none⟩ = some (.int .i64 0) := (hb1.cell (p := ⟨w.heap.size, 0, none⟩) (by simp <;> omega)).trans (by simp [go_sem])
  have f0 : w1.frozen? ⟨w.heap.size, 0, none⟩ = false := (hb1.frozen (p := ⟨w.heap.size, 0, none⟩) (by simp <;> omega)).trans (by simp [go_sem])
  have k1 : w1.cell? ⟨w.heap.size, 1, none⟩ = some (.int .u64 0) := (hb1.cell (p := ⟨w.heap.size, 1, none⟩) (by simp <;> omega)).trans (by simp [go_sem])
  have f1 : w1.frozen? ⟨w.heap.size, 1, none⟩ = false := (hb1.frozen (p := ⟨w.heap.size, 1, none⟩) (by simp <;> omega)).trans (by simp [go_sem])
  have B1 : Below w.heap.size w w1 := Below.trans (by repeat (first | (with_reducible exact Below.refl _ _) | (with_reducible refine below_alloc (Nat.le_refl _) ?_ _) | (with_reducible refine below_drewN ?_ _) | (with_reducible refine Below.drew ?_))) (hb1.mono (by simp <;> omega))
  clear hb1 r key bk
  go_wp2
  refine bodyPost_ret (v := .agg #[.int .i64 h, .int .u64 l]) (by simp [results, Tryd.results34, go_sem, k0, k1, z1]) rfl ⟨rfl, ?_⟩
  repeat (first | (with_reducible exact B1) | (with_reducible refine below_alloc (Nat.le_refl _) ?_ _) | (with_reducible refine Below.setCell ?_ (by simp) _))

end Go.Proofs.YtfjckgnclhpmcaaDoor.Vr

