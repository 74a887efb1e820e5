/- What Fit of the reference of layer 2 comes to. -/
import Derived.Test.YtmngbhkokglmjaaRneg
namespace Go.Proofs.Ytmngbhkokglmjaa.Vr
open Go.RowKit Go.Proofs.Ytmngbhkokglmjaa.Vm Go.Proofs.Ytmngbhkokglmjaa.Vc Go.Proofs.Ytmngbhkokglmjaa.Vl
attribute [local go_sem] alloc_drewN setCell_drewN

set_option maxHeartbeats 1000000

theorem rFit_tells (h1 l1 : Int) (w : World) (b1 : Bd h1 l1) :
    Calls Try.prog 73 #[.agg #[.int .i64 h1, .int .u64 l1]] w (Tells1 (num h1 l1) w) := by
  obtain ⟨n0, n1, n2⟩ := num_abs h1 l1 b1
  obtain ⟨d0, d1, d2, d3, d4, d5, d6, d7, D⟩ := d8_ex n0 n1
  have co := fun w => of_at h1 l1 d0 d1 d2 d3 d4 d5 d6 d7 w b1 D
  obtain ⟨hh, ehh⟩ : ∃ t, ((num h1 l1).natAbs : Int) / 18446744073709551616 = t := ⟨_, rfl⟩
  obtain ⟨ll, ell⟩ : ∃ t, ((num h1 l1).natAbs : Int) % 18446744073709551616 = t := ⟨_, rfl⟩
  obtain ⟨p0, p1, p2, p3, ex⟩ := back_facts n0 n1 ehh ell
  have cw := fun s w => words_to s _ hh ll d0 d1 d2 d3 d4 d5 d6 d7 w D (Lib.hid ehh) (Lib.hid ell)
  rw [ex] at n2
  replace n2 := Lib.hid n2
  clear D n0 n1 ehh ell ex
  have cs : decide (h1 < 0) = true ∨ decide (h1 < 0) = false := by cases decide (h1 < 0) <;> simp
  by_cases c1 : 0 < hh
  · have d1 : decide (0 < hh) = true := decide_eq_true c1
    rcases cs with s | s
    · have Q := n2.out
      rw [s] at Q
      have R : Res1 (num h1 l1) (0) 2 := .inr ⟨rfl, rfl, by unfold Fit1; unfold sgn num at Q; simp at Q; unfold num; omega⟩
      clear Q n2
      replace R := Lib.hid R
      go_enter Try.func73, Try.ntmps73
      go_wp2_with fail
      refine (co _).mono ?_
      rintro e w' ⟨rfl, rfl⟩
      go_wp2_with fail
      refine (cw _ _).mono ?_
      rintro e w1 ⟨rfl, hb1⟩
      have B1 : Below w.heap.size w w1 := by
        refine Below.trans ?_ (hb1.mono (by simp <;> omega))
        repeat (first | exact Below.refl _ _ | refine Below.alloc ?_ (by simp <;> omega) _)
      obtain ⟨hc, hf⟩ := bcell hb1
      have k0 : w1.cell? ⟨w.heap.size + 1 + 1 + 1 + 1 + 1, 0, none⟩ = some (.bool true) := by rw [hc _ _ (by simp <;> omega)]; simp [go_sem]
      clear hc hf hb1
      go_wp2
      go_ret2
      exact ⟨0, 2, rfl, R.out, B1⟩
    · have Q := n2.out
      rw [s] at Q
      have R : Res1 (num h1 l1) (0) 2 := .inr ⟨rfl, rfl, by unfold Fit1; unfold sgn num at Q; simp at Q; unfold num; omega⟩
      clear Q n2
      replace R := Lib.hid R
      go_enter Try.func73, Try.ntmps73
      go_wp2_with fail
      refine (co _).mono ?_
      rintro e w' ⟨rfl, rfl⟩
      go_wp2_with fail
      refine (cw _ _).mono ?_
      rintro e w1 ⟨rfl, hb1⟩
      have B1 : Below w.heap.size w w1 := by
        refine Below.trans ?_ (hb1.mono (by simp <;> omega))
        repeat (first | exact Below.refl _ _ | refine Below.alloc ?_ (by simp <;> omega) _)
      obtain ⟨hc, hf⟩ := bcell hb1
      have k0 : w1.cell? ⟨w.heap.size + 1 + 1 + 1 + 1 + 1, 0, none⟩ = some (.bool false) := by rw [hc _ _ (by simp <;> omega)]; simp [go_sem]
      clear hc hf hb1
      go_wp2
      go_ret2
      exact ⟨0, 2, rfl, R.out, B1⟩
  · obtain rfl : hh = 0 := by omega
    by_cases c2 : 9223372036854775808 < ll
    · have d2 : decide (9223372036854775808 < ll) = true := decide_eq_true c2
      rcases cs with s | s
      · have Q := n2.out
        rw [s] at Q
        have R : Res1 (num h1 l1) (0) 2 := .inr ⟨rfl, rfl, by unfold Fit1; unfold sgn num at Q; simp at Q; unfold num; omega⟩
        clear Q n2
        replace R := Lib.hid R
        go_enter Try.func73, Try.ntmps73
        go_wp2_with fail
        refine (co _).mono ?_
        rintro e w' ⟨rfl, rfl⟩
        go_wp2_with fail
        refine (cw _ _).mono ?_
        rintro e w1 ⟨rfl, hb1⟩
        have B1 : Below w.heap.size w w1 := by
          refine Below.trans ?_ (hb1.mono (by simp <;> omega))
          repeat (first | exact Below.refl _ _ | refine Below.alloc ?_ (by simp <;> omega) _)
        obtain ⟨hc, hf⟩ := bcell hb1
        have k0 : w1.cell? ⟨w.heap.size + 1 + 1 + 1 + 1 + 1, 0, none⟩ = some (.bool true) := by rw [hc _ _ (by simp <;> omega)]; simp [go_sem]
        clear hc hf hb1
        go_wp2
        go_ret2
        exact ⟨0, 2, rfl, R.out, B1⟩
      · have Q := n2.out
        rw [s] at Q
        have R : Res1 (num h1 l1) (0) 2 := .inr ⟨rfl, rfl, by unfold Fit1; unfold sgn num at Q; simp at Q; unfold num; omega⟩
        clear Q n2
        replace R := Lib.hid R
        go_enter Try.func73, Try.ntmps73
        go_wp2_with fail
        refine (co _).mono ?_
        rintro e w' ⟨rfl, rfl⟩
        go_wp2_with fail
        refine (cw _ _).mono ?_
        rintro e w1 ⟨rfl, hb1⟩
        have B1 : Below w.heap.size w w1 := by
          refine Below.trans ?_ (hb1.mono (by simp <;> omega))
          repeat (first | exact Below.refl _ _ | refine Below.alloc ?_ (by simp <;> omega) _)
        obtain ⟨hc, hf⟩ := bcell hb1
        have k0 : w1.cell? ⟨w.heap.size + 1 + 1 + 1 + 1 + 1, 0, none⟩ = some (.bool false) := by rw [hc _ _ (by simp <;> omega)]; simp [go_sem]
        clear hc hf hb1
        go_wp2
        go_ret2
        exact ⟨0, 2, rfl, R.out, B1⟩
    · have d2 : decide (9223372036854775808 < ll) = false := decide_eq_false c2
      by_cases c3 : ll = 9223372036854775808
      · subst c3
        clear c2 d2
        rcases cs with s | s
        · have Q := n2.out
          rw [s] at Q
          have R : Res1 (num h1 l1) (-9223372036854775808) 0 := .inl ⟨rfl, by unfold sgn num at Q; simp at Q; unfold num; omega, by unfold Fit1; unfold sgn num at Q; simp at Q; unfold num; omega⟩
          clear Q n2
          replace R := Lib.hid R
          go_enter Try.func73, Try.ntmps73
          go_wp2_with fail
          refine (co _).mono ?_
          rintro e w' ⟨rfl, rfl⟩
          go_wp2_with fail
          refine (cw _ _).mono ?_
          rintro e w1 ⟨rfl, hb1⟩
          have B1 : Below w.heap.size w w1 := by
            refine Below.trans ?_ (hb1.mono (by simp <;> omega))
            repeat (first | exact Below.refl _ _ | refine Below.alloc ?_ (by simp <;> omega) _)
          obtain ⟨hc, hf⟩ := bcell hb1
          have k0 : w1.cell? ⟨w.heap.size + 1 + 1 + 1 + 1 + 1, 0, none⟩ = some (.bool true) := by rw [hc _ _ (by simp <;> omega)]; simp [go_sem]
          clear hc hf hb1
          go_wp2
          go_ret2
          exact ⟨-9223372036854775808, 0, rfl, R.out, B1⟩
        · have Q := n2.out
          rw [s] at Q
          have R : Res1 (num h1 l1) (0) 2 := .inr ⟨rfl, rfl, by unfold Fit1; unfold sgn num at Q; simp at Q; unfold num; omega⟩
          clear Q n2
          replace R := Lib.hid R
          go_enter Try.func73, Try.ntmps73
          go_wp2_with fail
          refine (co _).mono ?_
          rintro e w' ⟨rfl, rfl⟩
          go_wp2_with fail
          refine (cw _ _).mono ?_
          rintro e w1 ⟨rfl, hb1⟩
          have B1 : Below w.heap.size w w1 := by
            refine Below.trans ?_ (hb1.mono (by simp <;> omega))
            repeat (first | exact Below.refl _ _ | refine Below.alloc ?_ (by simp <;> omega) _)
          obtain ⟨hc, hf⟩ := bcell hb1
          have k0 : w1.cell? ⟨w.heap.size + 1 + 1 + 1 + 1 + 1, 0, none⟩ = some (.bool false) := by rw [hc _ _ (by simp <;> omega)]; simp [go_sem]
          clear hc hf hb1
          go_wp2
          go_ret2
          exact ⟨0, 2, rfl, R.out, B1⟩
      · have d3 : (ll == 9223372036854775808) = false := beq_eq_false_iff_ne.2 c3
        have c4 : ll ≤ 9223372036854775807 := by omega
        rcases cs with s | s
        · by_cases c5 : 0 < ll
          · have d5 : decide (0 < ll) = true := decide_eq_true c5
            have c6 : 1 ≤ ll := by omega
            have Q := n2.out
            rw [s] at Q
            have R : Res1 (num h1 l1) (-(ll - 1) - 1) 0 := .inl ⟨rfl, by unfold sgn num at Q; simp at Q; unfold num; omega, by unfold Fit1; unfold sgn num at Q; simp at Q; unfold num; omega⟩
            clear Q n2
            replace R := Lib.hid R
            go_enter Try.func73, Try.ntmps73
            go_wp2_with fail
            refine (co _).mono ?_
            rintro e w' ⟨rfl, rfl⟩
            go_wp2_with fail
            refine (cw _ _).mono ?_
            rintro e w1 ⟨rfl, hb1⟩
            have B1 : Below w.heap.size w w1 := by
              refine Below.trans ?_ (hb1.mono (by simp <;> omega))
              repeat (first | exact Below.refl _ _ | refine Below.alloc ?_ (by simp <;> omega) _)
            obtain ⟨hc, hf⟩ := bcell hb1
            have k0 : w1.cell? ⟨w.heap.size + 1 + 1 + 1 + 1 + 1, 0, none⟩ = some (.bool true) := by rw [hc _ _ (by simp <;> omega)]; simp [go_sem]
            clear hc hf hb1
            go_wp2
            go_ret2
            exact ⟨-(ll - 1) - 1, 0, rfl, R.out, B1⟩
          · obtain rfl : ll = 0 := by omega
            clear c2 d2 c3 d3 c4 c5
            have Q := n2.out
            rw [s] at Q
            have R : Res1 (num h1 l1) (0) 0 := .inl ⟨rfl, by unfold sgn num at Q; simp at Q; unfold num; omega, by unfold Fit1; unfold sgn num at Q; simp at Q; unfold num; omega⟩
            clear Q n2
            replace R := Lib.hid R
            go_enter Try.func73, Try.ntmps73
            go_wp2_with fail
            refine (co _).mono ?_
            rintro e w' ⟨rfl, rfl⟩
            go_wp2_with fail
            refine (cw _ _).mono ?_
            rintro e w1 ⟨rfl, hb1⟩
            have B1 : Below w.heap.size w w1 := by
              refine Below.trans ?_ (hb1.mono (by simp <;> omega))
              repeat (first | exact Below.refl _ _ | refine Below.alloc ?_ (by simp <;> omega) _)
            obtain ⟨hc, hf⟩ := bcell hb1
            have k0 : w1.cell? ⟨w.heap.size + 1 + 1 + 1 + 1 + 1, 0, none⟩ = some (.bool true) := by rw [hc _ _ (by simp <;> omega)]; simp [go_sem]
            clear hc hf hb1
            go_wp2
            go_ret2
            exact ⟨0, 0, rfl, R.out, B1⟩
        · have Q := n2.out
          rw [s] at Q
          have R : Res1 (num h1 l1) (ll) 0 := .inl ⟨rfl, by unfold sgn num at Q; simp at Q; unfold num; omega, by unfold Fit1; unfold sgn num at Q; simp at Q; unfold num; omega⟩
          clear Q n2
          replace R := Lib.hid R
          go_enter Try.func73, Try.ntmps73
          go_wp2_with fail
          refine (co _).mono ?_
          rintro e w' ⟨rfl, rfl⟩
          go_wp2_with fail
          refine (cw _ _).mono ?_
          rintro e w1 ⟨rfl, hb1⟩
          have B1 : Below w.heap.size w w1 := by
            refine Below.trans ?_ (hb1.mono (by simp <;> omega))
            repeat (first | exact Below.refl _ _ | refine Below.alloc ?_ (by simp <;> omega) _)
          obtain ⟨hc, hf⟩ := bcell hb1
          have k0 : w1.cell? ⟨w.heap.size + 1 + 1 + 1 + 1 + 1, 0, none⟩ = some (.bool false) := by rw [hc _ _ (by simp <;> omega)]; simp [go_sem]
          clear hc hf hb1
          go_wp2
          go_ret2
          exact ⟨ll, 0, rfl, R.out, B1⟩

theorem rFit_any (h l v er : Int) (w : World) (b1 : Bd h l) (r : Res1 (num h l) v er) :
    Calls Try.prog 73 #[.agg #[.int .i64 h, .int .u64 l]] w fun e w' =>
      e = .returned (.tuple #[.int .i64 v, .int .i64 er]) ∧ Below w.heap.size w w' :=
  (rFit_tells h l w b1).mono fun e w' ⟨v', er', he, r', hb⟩ => by
    obtain ⟨rfl, rfl⟩ := res1_unique r r'
    exact ⟨he, hb⟩

end Go.Proofs.Ytmngbhkokglmjaa.Vr
