/- What Name of the reference of layer 8 comes to. -/
import Derived.Test.YtkpjkdeomoecjaaDoorZref
import Derived.Laws.IdiomStrings
namespace Go.Proofs.YtkpjkdeomoecjaaDoor.Zr
set_option linter.unusedSimpArgs false
set_option linter.unusedVariables false
open Go.RowKit Go.Proofs.YtkpjkdeomoecjaaDoor.Zm

set_option maxHeartbeats 1000000

/-- a text's bytes -/
abbrev by_ (s : ByteArray) : List UInt8 := s.data.toList

theorem by_len (s : ByteArray) : (by_ s).length = s.size := Array.length_toList

theorem by_get (s : ByteArray) (i : Nat) (h : i < s.size) : (by_ s)[i]'(by rw [by_len]; exact h) = s[i] := by
  simp [by_]; rfl

theorem letter_inner {c : UInt8} (h : letter c = true) : inner c = true := by unfold inner; rw [h]; rfl

theorem name_iff (s : ByteArray) : name (by_ s) = true ↔ (1 ≤ s.size ∧ s.size ≤ 16 ∧ (∀ h : 0 < s.size, letter s[0] = true) ∧ ∀ i (h : i < s.size), inner s[i] = true) := by
  have hl := by_len s
  have hg := by_get s
  cases hb : by_ s with
  | nil =>
    rw [hb] at hl
    simp at hl
    simp [name]; omega
  | cons c r =>
    rw [hb] at hl
    simp only [List.length_cons] at hl
    have h0 : s[0]'(by omega) = c := by rw [← hg 0 (by omega)]; simp [hb]
    have hi : ∀ i (h : i < r.length), s[i + 1]'(by omega) = r[i] := fun i h => by rw [← hg (i + 1) (by omega)]; simp [hb]
    simp only [name, Bool.and_eq_true, decide_eq_true_eq, List.all_eq_true]
    constructor
    · rintro ⟨⟨h1, h2⟩, h3⟩
      refine ⟨by omega, by omega, fun _ => by rw [h0]; exact h1, fun i h => ?_⟩
      cases i with
      | zero => rw [h0]; exact letter_inner h1
      | succ i => rw [hi i (by omega)]; exact h2 _ (List.getElem_mem _)
    · rintro ⟨h1, h2, h3, h4⟩
      refine ⟨⟨by rw [← h0]; exact h3 (by omega), fun d hd => ?_⟩, by omega⟩
      obtain ⟨i, h, rfl⟩ := List.mem_iff_getElem.1 hd
      rw [← hi i h]; exact h4 _ _

theorem bool_no {b : Bool} {P : Prop} (h : b = true ↔ P) (hp : ¬ P) : b = false := by
  cases b
  · rfl
  · exact absurd (h.1 rfl) hp

set_option maxRecDepth 100000 in
theorem rName (s : ByteArray) (w : World) (hm : s.size ≤ maxLen) :
    Calls Tryd.prog 70 #[.string s] w fun e w' => e = .returned (.bool (name (by_ s))) ∧ Below w.heap.size w w' := by
  unfold maxLen at hm
  have hn := name_iff s
  obtain ⟨v, hv⟩ : ∃ v, name (by_ s) = v := ⟨_, rfl⟩
  rw [hv] at hn ⊢
  clear hv
  by_cases h1 : s.size < 1
  · obtain rfl := bool_no hn (by omega)
    have d1 : decide ((s.size : Int) < 1) = true := decide_eq_true (by omega)
    clear h1 hn
    go_enter Tryd.func70, Tryd.ntmps70
    go_wp2
    go_ret
    exact ⟨rfl, Below.refl _ _⟩
  have d1 : decide ((s.size : Int) < 1) = false := decide_eq_false (by omega)
  by_cases h2 : 16 < s.size
  · obtain rfl := bool_no hn (by omega)
    have d2 : decide ((16 : Int) < (s.size : Int)) = true := decide_eq_true (by omega)
    clear h1 hn h2
    go_enter Tryd.func70, Tryd.ntmps70
    go_wp2
    go_ret
    exact ⟨rfl, Below.refl _ _⟩
  have d2 : decide ((16 : Int) < (s.size : Int)) = false := decide_eq_false (by omega)
  have hs : 0 < s.size := by omega
  have cl := rletter s[0]
  cases h3 : letter s[0] with
  | false =>
    obtain rfl := bool_no hn (fun h => by have := h.2.2.1 hs; rw [h3] at this; cases this)
    rw [h3] at cl
    clear h1 hn h2 h3
    go_enter Tryd.func70, Tryd.ntmps70
    go_wp2_with fail
    refine (cl _).mono ?_
    rintro e w' ⟨rfl, rfl⟩
    go_wp2_with fail
    go_ret
    exact ⟨rfl, Below.refl _ _⟩
  | true =>
    rw [h3] at cl
    have HN := Lib.hid hn
    have H3 := Lib.hid h3
    have s16 : s.size ≤ 16 := by omega
    clear h1 hn h2 h3
    go_enter Tryd.func70, Tryd.ntmps70
    go_wp2_with fail
    refine (cl _).mono ?_
    rintro e w' ⟨rfl, rfl⟩
    go_wp2_with fail
    go_loopw [20] (fun I wr => ∃ pos : Nat, pos ≤ s.size ∧ I = .int .i64 pos ∧ Below w.heap.size w wr ∧ Hid (∀ i (h : i < s.size), i < pos → inner s[i] = true)) (fun I _ => 20 - (intOf I).toNat)
    case atStart => exact ⟨0, by omega, rfl, Below.refl _ _, Lib.hid (fun i h h0 => by omega)⟩
    case round =>
      obtain ⟨pos, hp, rfl, hb, hi⟩ := hrel
      have pp : (0 : Int) ≤ (pos : Int) := by omega
      by_cases hlt : pos < s.size
      · have ci := rinner s[pos]
        cases h4 : inner s[pos] with
        | false =>
          rw [h4] at ci
          have hv : Hid (v = false) := Lib.hid (bool_no HN.out (fun h => by have := h.2.2.2 pos hlt; rw [h4] at this; cases this))
          clear h4
          go_wp2_with fail
          refine (ci _).mono ?_
          rintro e w' ⟨rfl, rfl⟩
          go_wp2_with fail
          go_ret
          exact ⟨by rw [hv.out]; rfl, hb⟩
        | true =>
          rw [h4] at ci
          have HI : Hid (∀ i (h : i < s.size), i < pos + 1 → inner s[i] = true) := Lib.hid (fun i h hi' => by
            rcases Nat.lt_or_ge i pos with g | g
            · exact hi.out i h g
            · obtain rfl : i = pos := by omega
              exact h4)
          clear h4
          go_wp2_with fail
          refine (ci _).mono ?_
          rintro e w' ⟨rfl, rfl⟩
          go_wp2_with fail
          go_roundw
          case rel => exact ⟨pos + 1, by omega, by go_num, hb, HI⟩
          case measure => simp [intOf]; omega
      · have hv : Hid (v = true) := Lib.hid (HN.out.2 ⟨hs, s16, fun _ => H3.out, fun i h => hi.out i h (by omega)⟩)
        obtain rfl : pos = s.size := by omega
        go_wp2_with fail
        go_ret
        exact ⟨by rw [hv.out]; rfl, hb⟩

end Go.Proofs.YtkpjkdeomoecjaaDoor.Zr
