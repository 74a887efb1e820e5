/- What opposite of package label comes to. -/
import Derived.Test.YtfjckgnclhpmcaaDoorNcut
namespace Go.Proofs.YtfjckgnclhpmcaaDoor.Np
set_option linter.unusedSimpArgs false
set_option linter.unusedVariables false
open Go.RowKit Go.Proofs.YtfjckgnclhpmcaaDoor.Pr Go.Proofs.YtfjckgnclhpmcaaDoor.Nm Go.Proofs.YtfjckgnclhpmcaaDoor.Wm Go.Proofs.YtfjckgnclhpmcaaDoor.Wc

set_option maxHeartbeats 1000000

/-- what fits below 0 -/
def Low (x : Int) : Prop := x ≤ 9223372036854775808
theorem first_over {s : ByteArray} (n : Nat) (h : ¬ Low (val s n)) : ∃ m, m < n ∧ (∀ k, k ≤ m → Low (val s k)) ∧ ¬ Low (val s (m + 1)) := by
  have key : ∀ m : Nat, (∃ k, k < m ∧ (∀ j, j ≤ k → Low (val s j)) ∧ ¬ Low (val s (k + 1))) ∨ ∀ k, k ≤ m → Low (val s k) := by
    intro m
    induction m with
    | zero => exact .inr (fun k hk => by obtain rfl : k = 0 := by omega
                                         unfold Low val vl; omega)
    | succ m ih =>
      rcases ih with ⟨k, a, b⟩ | ih
      · exact .inl ⟨k, by omega, b⟩
      · by_cases c : Low (val s (m + 1))
        · refine .inr (fun k hk => ?_)
          by_cases e : k = m + 1
          · subst e; exact c
          · exact ih k (by omega)
        · exact .inl ⟨m, by omega, ih, c⟩
  rcases key n with ⟨k, a, b⟩ | k
  · exact ⟨k, a, b⟩
  · exact absurd (k n (Nat.le_refl _)) h

set_option maxRecDepth 100000 in
theorem opposite_yes (s : ByteArray) (v : Int) (w : World) (hm : s.size ≤ maxLen) (hd : AllDig s) (hl : Low (val s s.size)) (hv : v = - val s s.size) :
    Calls Tryd.prog 30 #[.string s] w fun e w' => e = .returned (.tuple #[.int .i64 v, .int .i64 0]) ∧ Below w.heap.size w w' := by
  unfold maxLen at hm
  have F : Hid (∀ k (hk : k < s.size), ∃ a d : Int, a = - val s k ∧ (s[k].toNat : Int) = 48 + d ∧ - val s (k + 1) = a * 10 - d ∧ Fit a ∧ Fit (a * 10) ∧ Fit (a * 10 - d) ∧ 0 ≤ d ∧ d ≤ 9) :=
    Lib.hid (fun k hk => by
      have a0 := val_nonneg hd k (by omega)
      have a1 := val_mono hd (a := k + 1) (b := s.size) (by omega) (Nat.le_refl _)
      have d := hd k hk
      unfold IsDig at d
      rw [byt_at hk] at d
      unfold Low at hl
      have e := val_succ s k
      rw [byt_at hk] at e
      refine ⟨_, (s[k].toNat : Int) - 48, rfl, by omega, by omega, ?_, ?_, ?_, by omega, by omega⟩ <;> (unfold Fit; omega))
  have V := Lib.hid hv
  clear hd hv hl
  go_enter Tryd.func30, Tryd.ntmps30
  go_wp2
  go_loopw [4, 10] (fun N X wr => ∃ k : Nat, k ≤ s.size ∧ X = .int .i64 (k : Int) ∧ (∃ a : Int, N = .int .i64 a ∧ Hid (a = - val s k)) ∧ Below w.heap.size w wr) (fun _ X _ => s.size - (intOf X).toNat)
  case atStart => exact ⟨0, by omega, rfl, ⟨0, rfl, Lib.hid (by simp [val, vl])⟩, Below.refl _ _⟩
  case round =>
    obtain ⟨k, hk, rfl, ⟨a, rfl, ha⟩, B⟩ := hrel
    by_cases hlt : k < s.size
    · obtain ⟨a', d, e1, ec, e3, fa, f10, fd, d0, d1⟩ := F.out k hlt
      obtain rfl : a = a' := ha.out.trans e1.symm
      have pp : (0 : Int) ≤ (k : Int) := by omega
      have bp : (k : Int) < (s.size : Int) := by omega
      have E3 := Lib.hid e3
      have cm := fun w => mul_yes a 10 w fa (by unfold Fit; omega) f10
      have cs := fun w => sub_yes (a * 10) (48 + d - 48) w f10 (by unfold Fit; omega) (by rw [show 48 + d - 48 = d by omega]; exact fd)
      clear e1 e3 ha fa f10 fd
      go_wp2_with fail
      with_reducible refine (cm _).mono ?_
      rintro e w1 ⟨rfl, rfl⟩
      generalize a * 10 = t at *
      go_wp2_with fail
      with_reducible refine (cs _).mono ?_
      rintro e w1 ⟨rfl, rfl⟩
      go_wp2
      go_roundw
      case rel => exact ⟨k + 1, by omega, by go_num, ⟨_, rfl, Lib.hid (by have := E3.out; omega)⟩, B⟩
      case measure => simp [intOf]; omega
    · obtain rfl : k = s.size := by omega
      obtain rfl : a = v := ha.out.trans V.out.symm
      clear ha
      go_wp2
      go_ret2
      exact ⟨rfl, B⟩

set_option maxRecDepth 100000 in
theorem opposite_no (s : ByteArray) (w : World) (hm : s.size ≤ maxLen) (hd : AllDig s) (hl : ¬ Low (val s s.size)) :
    Calls Tryd.prog 30 #[.string s] w fun e w' => e = .returned (.tuple #[.int .i64 0, .int .i64 2]) ∧ Below w.heap.size w w' := by
  unfold maxLen at hm
  obtain ⟨m, m0, lo, no⟩ := first_over s.size hl
  have F : Hid (∀ k (hk : k < s.size), k ≤ m → ∃ a d : Int, a = - val s k ∧ (s[k].toNat : Int) = 48 + d ∧ - val s (k + 1) = a * 10 - d ∧ Fit a ∧ 0 ≤ d ∧ d ≤ 9 ∧ (k < m → Fit (a * 10) ∧ Fit (a * 10 - d)) ∧ (k = m → ¬ Fit (a * 10) ∨ (Fit (a * 10) ∧ ¬ Fit (a * 10 - d)))) :=
    Lib.hid (fun k hk hkm => by
      have a0 := val_nonneg hd k (by omega)
      have l0 := lo k hkm
      have d := hd k hk
      unfold IsDig at d
      rw [byt_at hk] at d
      unfold Low at l0 no
      have e := val_succ s k
      rw [byt_at hk] at e
      refine ⟨_, (s[k].toNat : Int) - 48, rfl, by omega, by omega, by unfold Fit; omega, by omega, by omega, fun q => ?_, fun q => ?_⟩
      · have l1 := lo (k + 1) (by omega)
        unfold Low at l1
        constructor <;> (unfold Fit; omega)
      · subst q
        unfold Fit
        omega)
  clear hd hl lo no
  go_enter Tryd.func30, Tryd.ntmps30
  go_wp2
  go_loopw [4, 10] (fun N X wr => ∃ k : Nat, k ≤ m ∧ X = .int .i64 (k : Int) ∧ (∃ a : Int, N = .int .i64 a ∧ Hid (a = - val s k)) ∧ Below w.heap.size w wr) (fun _ X _ => s.size - (intOf X).toNat)
  case atStart => exact ⟨0, by omega, rfl, ⟨0, rfl, Lib.hid (by simp [val, vl])⟩, Below.refl _ _⟩
  case round =>
    obtain ⟨k, hk, rfl, ⟨a, rfl, ha⟩, B⟩ := hrel
    have hks : k < s.size := by omega
    obtain ⟨a', d, e1, ec, e3, fa, d0, d1, g1, g2⟩ := F.out k hks hk
    obtain rfl : a = a' := ha.out.trans e1.symm
    have pp : (0 : Int) ≤ (k : Int) := by omega
    have bp : (k : Int) < (s.size : Int) := by omega
    have E3 := Lib.hid e3
    clear e1 e3 ha
    by_cases hlt : k < m
    · obtain ⟨f10, fd⟩ := g1 hlt
      have cm := fun w => mul_yes a 10 w fa (by unfold Fit; omega) f10
      have cs := fun w => sub_yes (a * 10) (48 + d - 48) w f10 (by unfold Fit; omega) (by rw [show 48 + d - 48 = d by omega]; exact fd)
      clear fa f10 fd g1 g2
      go_wp2_with fail
      with_reducible refine (cm _).mono ?_
      rintro e w1 ⟨rfl, rfl⟩
      generalize a * 10 = t at *
      go_wp2_with fail
      with_reducible refine (cs _).mono ?_
      rintro e w1 ⟨rfl, rfl⟩
      go_wp2
      go_roundw
      case rel => exact ⟨k + 1, by omega, by go_num, ⟨_, rfl, Lib.hid (by have := E3.out; omega)⟩, B⟩
      case measure => simp [intOf]; omega
    · obtain rfl : k = m := by omega
      rcases g2 rfl with f10 | ⟨f10, fd⟩
      · have cm := fun w => mul_no a 10 w fa (by unfold Fit; omega) f10
        clear fa f10 g1 g2
        go_wp2_with fail
        with_reducible refine (cm _).mono ?_
        rintro e w1 ⟨rfl, rfl⟩
        go_wp2
        go_ret2
        exact ⟨rfl, B⟩
      · have cm := fun w => mul_yes a 10 w fa (by unfold Fit; omega) f10
        have cs := fun w => sub_no (a * 10) (48 + d - 48) w f10 (by unfold Fit; omega) (by rw [show 48 + d - 48 = d by omega]; exact fd)
        clear fa f10 fd g1 g2
        go_wp2_with fail
        with_reducible refine (cm _).mono ?_
        rintro e w1 ⟨rfl, rfl⟩
        generalize a * 10 = t at *
        go_wp2_with fail
        with_reducible refine (cs _).mono ?_
        rintro e w1 ⟨rfl, rfl⟩
        go_wp2
        go_ret2
        exact ⟨rfl, B⟩

end Go.Proofs.YtfjckgnclhpmcaaDoor.Np
