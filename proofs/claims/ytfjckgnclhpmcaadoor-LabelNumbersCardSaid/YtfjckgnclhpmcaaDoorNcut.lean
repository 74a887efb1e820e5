/- What CutPrefix of the strings comes to. -/
import Derived.Test.YtfjckgnclhpmcaaDoorNcode
import Derived.Laws.IdiomStrings
namespace Go.Proofs.YtfjckgnclhpmcaaDoor.Np
set_option linter.unusedSimpArgs false
set_option linter.unusedVariables false
open Go.RowKit Go.Proofs.YtfjckgnclhpmcaaDoor.Pr Go.Proofs.YtfjckgnclhpmcaaDoor.Nm Go.Proofs.YtfjckgnclhpmcaaDoor.Tm

set_option maxHeartbeats 1000000

theorem same_list (a b : ByteArray) : (a.toList == b.toList) = decide (a = b) := by
  by_cases h : a = b
  · subst h; simp
  · rw [decide_eq_false h]
    refine beq_eq_false_iff_ne.2 (fun e => h ?_)
    rw [ByteArray.toList_eq, ByteArray.toList_eq] at e
    obtain ⟨⟨x⟩⟩ := a
    obtain ⟨⟨y⟩⟩ := b
    simp at e
    rw [e]
theorem has_any (s p : ByteArray) (b : Bool) (w : World) (hs : s.size ≤ maxLen) (O : (s.size < p.size ∧ b = false) ∨ (p.size ≤ s.size ∧ decide (s.extract 0 p.size = p) = b)) :
    Calls Tryd.prog 47 #[.string s, .string p] w fun e w' => e = .returned (.bool b) ∧ Below w.heap.size w w' := by
  unfold maxLen at hs
  rcases O with ⟨h, rfl⟩ | ⟨h, e⟩
  · go_enter Tryd.func47, Tryd.ntmps47
    go_wp2
    go_ret
    exact ⟨rfl, Below.refl _ _⟩
  · obtain ⟨pa, hpa⟩ : ∃ pa, pa = s.extract 0 p.size := ⟨_, rfl⟩
    have e1 : ∀ w, (Instr.slice 9 (.string s) none (some (.int .i64 (p.size : Int))) none).run Tryd.prog w = .ok (.string pa) w := fun w => by
      rw [run_slice_string_to_if _ _ _ _ _ Tryd.underlying9, if_pos ⟨by omega, by omega⟩, hpa]; simp
    rw [← hpa] at e
    clear hpa
    subst e
    go_enter Tryd.func47, Tryd.ntmps47
    go_wp2
    go_ret
    exact ⟨by simp [same_list], Below.refl _ _⟩

/-- what is cut off, and whether it was there -/
def CutA (s p r : ByteArray) (b : Bool) : Prop := (b = true ∧ s = p ++ r) ∨ (b = false ∧ r = s ∧ ∀ u, s ≠ p ++ u)
theorem cuta_ex (s p : ByteArray) : ∃ r b, CutA s p r b := by
  by_cases h : ∃ u, s = p ++ u
  · obtain ⟨u, e⟩ := h
    exact ⟨u, true, .inl ⟨rfl, e⟩⟩
  · exact ⟨s, false, .inr ⟨rfl, rfl, fun u e => h ⟨u, e⟩⟩⟩

theorem scut_any (s p r : ByteArray) (b : Bool) (w : World) (hs : s.size ≤ maxLen) (R : CutA s p r b) :
    Calls Tryd.prog 38 #[.string s, .string p] w fun e w' => e = .returned (.tuple #[.string r, .bool b]) ∧ Below w.heap.size w w' := by
  rcases R with ⟨rfl, rfl⟩ | ⟨rfl, rfl, no⟩
  · have hz : (p ++ r).size = p.size + r.size := ByteArray.size_append
    have ch := fun w => has_any (p ++ r) p true w hs (.inr ⟨by omega, decide_eq_true (ByteArray.extract_append_eq_left rfl)⟩)
    have e1 : ∀ w, (Instr.slice 9 (.string (p ++ r)) (some (.int .i64 (p.size : Int))) none none).run Tryd.prog w = .ok (.string r) w := fun w => by
      rw [run_slice_string_from_if _ _ _ _ _ Tryd.underlying9, if_pos ⟨by omega, by omega⟩]
      have : (p ++ r).extract p.size (p ++ r).size = r := ByteArray.extract_append_eq_right rfl ByteArray.size_append
      rw [show ((p.size : Int)).toNat = p.size by omega, this]
    unfold maxLen at hs
    generalize p ++ r = s at *
    go_enter Tryd.func38, Tryd.ntmps38
    go_wp2_with fail
    refine (ch _).mono ?_
    rintro e w1 ⟨rfl, hb⟩
    go_wp2
    go_ret2
    exact ⟨rfl, hb⟩
  · have ch : ∀ w, Calls Tryd.prog 47 #[.string r, .string p] w fun e w' => e = .returned (.bool false) ∧ Below w.heap.size w w' := fun w => by
      by_cases h : r.size < p.size
      · exact has_any r p false w hs (.inl ⟨h, rfl⟩)
      · refine has_any r p false w hs (.inr ⟨by omega, decide_eq_false (fun e => no (r.extract p.size r.size) ?_)⟩)
        have : r.extract 0 p.size ++ r.extract p.size r.size = r := by
          rw [ByteArray.extract_append_extract, Nat.min_eq_left (by omega), Nat.max_eq_right (by omega)]
          exact ByteArray.extract_zero_size
        rw [e] at this
        exact this.symm
    clear no
    go_enter Tryd.func38, Tryd.ntmps38
    go_wp2_with fail
    refine (ch _).mono ?_
    rintro e w1 ⟨rfl, hb⟩
    go_wp2
    go_ret2
    exact ⟨rfl, hb⟩

theorem cut_any (s p r : ByteArray) (b : Bool) (w : World) (hs : s.size ≤ maxLen) (R : CutA s p r b) :
    Calls Tryd.prog 28 #[.string s, .string p] w fun e w' => e = .returned (.tuple #[.string r, .bool b]) ∧ Below w.heap.size w w' := by
  have cc := fun w => scut_any s p r b w hs R
  clear R
  go_enter Tryd.func28, Tryd.ntmps28
  go_wp2_with fail
  refine (cc _).mono ?_
  rintro e w1 ⟨rfl, hb⟩
  go_wp2
  go_ret2
  exact ⟨rfl, hb⟩

end Go.Proofs.YtfjckgnclhpmcaaDoor.Np
