/- What areDigits, number and opposite of package label come to. -/
import Derived.Test.YtfjckgnclhpmcaaDoorNlaw2
import Derived.Test.YtfjckgnclhpmcaaDoorUcode
import Derived.Test.YtfjckgnclhpmcaaDoorWcode
import Derived.Test.YtfjckgnclhpmcaaDoorPairs
import Derived.Lib.Hide
namespace Go.Proofs.YtfjckgnclhpmcaaDoor.Np
set_option linter.unusedSimpArgs false
set_option linter.unusedVariables false
open Go.RowKit Go.Proofs.YtfjckgnclhpmcaaDoor.Pr Go.Proofs.YtfjckgnclhpmcaaDoor.Nm Go.Proofs.YtfjckgnclhpmcaaDoor.Tm

set_option maxHeartbeats 1000000

theorem not_dig {b : Int} (h : ¬ IsDig b) : b < 48 ∨ (48 ≤ b ∧ 57 < b) := by unfold IsDig at h; omega
/-- the first byte that is no digit -/
theorem first_bad {s : ByteArray} (h : ¬ AllDig s) : ∃ n, n < s.size ∧ ¬ IsDig (byt s n) ∧ ∀ k, k < n → IsDig (byt s k) := by
  have key : ∀ m : Nat, m ≤ s.size → (∃ n, n < s.size ∧ ¬ IsDig (byt s n) ∧ ∀ k, k < n → IsDig (byt s k)) ∨ ∀ k, k < m → IsDig (byt s k) := by
    intro m
    induction m with
    | zero => intro _; exact .inr (fun _ h => absurd h (by omega))
    | succ m ih =>
      intro hm
      rcases ih (by omega) with h | h
      · exact .inl h
      · by_cases c : IsDig (byt s m)
        · refine .inr (fun k hk => ?_)
          by_cases e : k = m
          · subst e; exact c
          · exact h k (by omega)
        · exact .inl ⟨m, by omega, c, h⟩
  rcases key s.size (Nat.le_refl _) with k | k
  · exact k
  · exact absurd k h

set_option maxRecDepth 100000 in
theorem areDigits_any (s : ByteArray) (b : Bool) (w : World) (hm : s.size ≤ maxLen) (hb : (b = true ∧ AllDig s) ∨ (b = false ∧ ¬ AllDig s)) :
    Calls Tryd.prog 29 #[.string s] w fun e w' => e = .returned (.bool b) ∧ Below w.heap.size w w' := by
  unfold maxLen at hm
  obtain ⟨n, hn⟩ : ∃ n, n = s.size := ⟨_, rfl⟩
  rcases hb with ⟨rfl, h⟩ | ⟨rfl, h⟩
  · have H := Lib.hid h
    clear h
    go_enter Tryd.func29, Tryd.ntmps29
    go_wp2
    go_loopw [3, 6] (fun _ X wr => ∃ k : Nat, k ≤ s.size ∧ X = .int .i64 (k : Int) ∧ Below w.heap.size w wr) (fun _ X _ => s.size - (intOf X).toNat)
    case atStart => exact ⟨0, by omega, rfl, Below.refl _ _⟩
    case round =>
      obtain ⟨k, hk, rfl, B⟩ := hrel
      by_cases hlt : k < s.size
      · have d := H.out k hlt
        rw [byt_at hlt] at d
        unfold IsDig at d
        obtain ⟨d0, d1⟩ := d
        have pp : (0 : Int) ≤ (k : Int) := by omega
        have bp : (k : Int) < (s.size : Int) := by omega
        go_wp2
        go_roundw
        case rel => exact ⟨k + 1, by omega, by go_num, B⟩
        case measure => simp [intOf]; omega
      · obtain rfl : k = s.size := by omega
        go_wp2
        go_ret
        exact ⟨rfl, B⟩
  · obtain ⟨m, m0, bad, good⟩ := first_bad h
    have G := Lib.hid good
    have Bd := Lib.hid (not_dig bad)
    clear h good bad
    go_enter Tryd.func29, Tryd.ntmps29
    go_wp2
    go_loopw [3, 6] (fun _ X wr => ∃ k : Nat, k ≤ m ∧ X = .int .i64 (k : Int) ∧ Below w.heap.size w wr) (fun _ X _ => s.size - (intOf X).toNat)
    case atStart => exact ⟨0, by omega, rfl, Below.refl _ _⟩
    case round =>
      obtain ⟨k, hk, rfl, B⟩ := hrel
      have hks : k < s.size := by omega
      have pp : (0 : Int) ≤ (k : Int) := by omega
      have bp : (k : Int) < (s.size : Int) := by omega
      by_cases hlt : k < m
      · have d := G.out k hlt
        rw [byt_at hks] at d
        unfold IsDig at d
        obtain ⟨d0, d1⟩ := d
        go_wp2
        go_roundw
        case rel => exact ⟨k + 1, by omega, by go_num, B⟩
        case measure => simp [intOf]; omega
      · obtain rfl : k = m := by omega
        have d := Bd.out
        rw [byt_at hks] at d
        rcases d with d | ⟨d0, d1⟩
        · go_wp2
          go_ret
          exact ⟨rfl, B⟩
        · go_wp2
          go_ret
          exact ⟨rfl, B⟩

set_option maxRecDepth 100000 in
theorem number_any (s : ByteArray) (v : Int) (w : World) (h4 : s.size ≤ 4) (hd : AllDig s) (hv : v = val s s.size) :
    Calls Tryd.prog 37 #[.string s] w fun e w' => e = .returned (.int .i64 v) ∧ Below w.heap.size w w' := by
  have F : Hid (∀ k, k < s.size → ∃ a d : Int, a = val s k ∧ (s[k]?.map (·.toNat)) = some (48 + d).toNat ∧ val s (k + 1) = 10 * a + d ∧ 0 ≤ a ∧ a ≤ 9999 ∧ 0 ≤ d ∧ d ≤ 9) :=
    Lib.hid (fun k hk => by
      have a0 := val_nonneg hd k (by omega)
      have a1 := val_lt hd k (by omega)
      have p := pow_up (a := k) (b := 4) (by omega)
      have d := hd k hk
      unfold IsDig at d
      rw [byt_at hk] at d
      refine ⟨_, (s[k].toNat : Int) - 48, rfl, ?_, ?_, a0, by omega, by omega, by omega⟩
      · rw [show (48 + ((s[k].toNat : Int) - 48)).toNat = s[k].toNat by omega]
        simp [hk]
      · rw [val_succ, byt_at hk])
  have V := Lib.hid hv
  clear hd hv
  go_enter Tryd.func37, Tryd.ntmps37
  go_wp2
  go_loopw [3, 4, 7] (fun N _ X wr => ∃ k : Nat, k ≤ s.size ∧ X = .int .i64 (k : Int) ∧ (∃ a : Int, N = .int .i64 a ∧ Hid (a = val s k)) ∧ Below w.heap.size w wr) (fun _ _ X _ => s.size - (intOf X).toNat)
  case atStart => exact ⟨0, by omega, rfl, ⟨0, rfl, Lib.hid rfl⟩, Below.refl _ _⟩
  case round =>
    obtain ⟨k, hk, rfl, ⟨a, rfl, ha⟩, B⟩ := hrel
    by_cases hlt : k < s.size
    · obtain ⟨a', d, e1, e2, e3, a0, a1, d0, d1⟩ := F.out k hlt
      obtain rfl : a = a' := ha.out.trans e1.symm
      have pp : (0 : Int) ≤ (k : Int) := by omega
      have bp : (k : Int) < (s.size : Int) := by omega
      have ec : (s[k].toNat : Int) = 48 + d := by
        simp [hlt] at e2; omega
      have E3 := Lib.hid e3
      clear e1 e2 e3 ha
      go_wp2
      go_roundw
      case rel => exact ⟨k + 1, by omega, by go_num, ⟨_, rfl, Lib.hid (by have := E3.out; omega)⟩, B⟩
      case measure => simp [intOf]; omega
    · obtain rfl : k = s.size := by omega
      obtain rfl : a = v := ha.out.trans V.out.symm
      clear ha
      go_wp2
      go_ret
      exact ⟨rfl, B⟩

end Go.Proofs.YtfjckgnclhpmcaaDoor.Np
