/- What Name of package lex comes to (as in Zcode2, for seats without the rest of lex). -/
import Derived.Test.YtkpjkdeomoecjaaDoorZcode
import Derived.Lib.SmallJoins
namespace Go.Proofs.YtkpjkdeomoecjaaDoor.Zp
set_option linter.unusedSimpArgs false
set_option linter.unusedVariables false
open Go.RowKit Go.Proofs.YtkpjkdeomoecjaaDoor.Zm Go.Proofs.YtkpjkdeomoecjaaDoor.Zr

set_option maxHeartbeats 1000000

theorem tw_full {p : UInt8 → Bool} (l : List UInt8) : (l.takeWhile p).length = l.length ↔ ∀ c ∈ l, p c = true := by
  induction l with
  | nil => simp
  | cons c r ih =>
    by_cases h : p c = true
    · simp [List.takeWhile_cons, h, ih]
    · simp [List.takeWhile_cons, h]

theorem text_not_empty (s : ByteArray) (h : 0 < s.size) : ¬ s.toList = [] ∧ s.toList.isEmpty = false := by
  have : s.toList ≠ [] := by
    rw [ByteArray.toList_eq]
    intro e
    have := by_len s
    rw [show by_ s = [] from e] at this
    simp at this; omega
  exact ⟨this, by cases hq : s.toList with
    | nil => exact absurd hq this
    | cons c r => rfl⟩

theorem name_tw (s : ByteArray) (h1 : 1 ≤ s.size) : name (by_ s) = (letter (s[0]'(by omega)) && (decide (s.size ≤ 16) && decide (((by_ s).takeWhile inner).length = s.size))) := by
  have hf := tw_full (p := inner) (by_ s)
  rw [by_len] at hf
  rw [Bool.eq_iff_iff, name_iff]
  simp only [Bool.and_eq_true, decide_eq_true_eq, hf]
  constructor
  · rintro ⟨_, h2, h3, h4⟩
    refine ⟨h3 (by omega), h2, fun c hc => ?_⟩
    obtain ⟨i, hi, rfl⟩ := List.mem_iff_getElem.1 hc
    rw [by_len] at hi
    rw [by_get s i hi]; exact h4 i hi
  · rintro ⟨h2, h3, h4⟩
    refine ⟨h1, h3, fun _ => h2, fun i hi => ?_⟩
    rw [← by_get s i hi]; exact h4 _ (List.getElem_mem _)

set_option maxRecDepth 100000 in
theorem Name_any (s : ByteArray) (w : World) (hm : s.size ≤ maxLen) :
    Calls Tryd.prog 50 #[.string s] w fun e w' => e = .returned (.bool (name (by_ s))) ∧ w = w' := by
  unfold maxLen at hm
  by_cases h0 : s.size = 0
  · obtain rfl : s = ⟨#[]⟩ := by apply ByteArray.ext; exact Array.eq_empty_of_size_eq_zero h0
    clear h0 hm
    go_enter Tryd.func50, Tryd.ntmps50
    go_wp2_with fail
    go_ret
    exact ⟨rfl, rfl⟩
  · have hn := name_tw s (by omega)
    have hs : 0 < s.size := by omega
    obtain ⟨en, ee⟩ := text_not_empty s hs
    have cl := isLetter_any s[0]
    cases h1 : letter s[0] with
    | false =>
      rw [h1] at cl hn
      have HN := Lib.hid hn
      clear hn h1 h0
      go_enter Tryd.func50, Tryd.ntmps50
      go_wp2_with fail
      refine (cl _).mono ?_
      rintro e w' ⟨rfl, rfl⟩
      go_wp2_with fail
      go_ret
      exact ⟨by rw [HN.out]; rfl, rfl⟩
    | true =>
      rw [h1] at cl hn
      by_cases h16 : s.size ≤ 16
      · have d1 : decide ((s.size : Int) ≤ 16) = true := decide_eq_true (by omega)
        obtain ⟨n, hr⟩ : ∃ n, ((by_ s).takeWhile inner).length = n := ⟨_, rfl⟩
        have cr := run_any _ _ asks_inner s n w (by omega) hr
        rw [hr] at hn
        have hd : decide (n = s.size) = ((n : Int) == (s.size : Int)) := by rw [Bool.eq_iff_iff]; simp; omega
        rw [hd] at hn
        have HN := Lib.hid hn
        clear hn h1 h0 hr hd
        go_enter Tryd.func50, Tryd.ntmps50
        go_wp2_with fail
        refine (cl _).mono ?_
        rintro e w' ⟨rfl, rfl⟩
        go_wp2_with fail
        refine cr.mono ?_
        rintro e w' ⟨rfl, rfl⟩
        go_wp2_with fail
        go_ret
        exact ⟨by rw [HN.out]; simp [h16], rfl⟩
      · have d1 : decide ((s.size : Int) ≤ 16) = false := decide_eq_false (by omega)
        have HN := Lib.hid hn
        clear hn h1 h0
        go_enter Tryd.func50, Tryd.ntmps50
        go_wp2_with fail
        refine (cl _).mono ?_
        rintro e w' ⟨rfl, rfl⟩
        go_wp2_with fail
        go_ret
        exact ⟨by rw [HN.out]; simp [h16], rfl⟩

end Go.Proofs.YtkpjkdeomoecjaaDoor.Zp
