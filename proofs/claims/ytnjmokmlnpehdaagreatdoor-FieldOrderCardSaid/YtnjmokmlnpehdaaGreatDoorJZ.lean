/- Texts that are joined: Zref, Zref2, Zcode, Zname. -/
import Derived.Test.YtnjmokmlnpehdaaGreatDoorChecked
import Derived.Test.YtnjmokmlnpehdaaGreatDoorJP
import Derived.WalkKit
import Derived.Below
import Derived.Lib.Hide
import Derived.Deep.QuietTactic
import Derived.BigQuiet
import Derived.Laws.IdiomStrings
import Derived.IntWalk
import Derived.Lib.SmallJoins
namespace Go.Proofs.YtnjmokmlnpehdaaGreatDoor.Zr
set_option linter.unusedSimpArgs false
set_option linter.unusedVariables false
open Go.RowKit Go.Proofs.YtnjmokmlnpehdaaGreatDoor.Zm

set_option maxHeartbeats 1000000

theorem rletter (c : UInt8) (w : World) : Calls Tryz.prog 64 #[.int .u8 c.toNat] w fun e w' => e = .returned (.bool (letter c)) ∧ w = w' := by
  have e : letter c = (decide ((97 : Int) ≤ (c.toNat : Int)) && decide ((c.toNat : Int) ≤ 122)) := by
    unfold letter; congr 1 <;> (rw [decide_eq_decide]; omega)
  rw [e]; clear e
  by_cases h1 : (97 : Int) ≤ (c.toNat : Int)
  · have d1 : decide ((97 : Int) ≤ (c.toNat : Int)) = true := decide_eq_true h1
    clear h1
    go_enter Tryz.func64, Tryz.ntmps64
    go_wp2
    go_ret
    exact ⟨by simp [d1], rfl⟩
  · have d1 : decide ((97 : Int) ≤ (c.toNat : Int)) = false := decide_eq_false h1
    clear h1
    go_enter Tryz.func64, Tryz.ntmps64
    go_wp2
    go_ret
    exact ⟨by simp [d1], rfl⟩

theorem rdigit (c : UInt8) (w : World) : Calls Tryz.prog 81 #[.int .u8 c.toNat] w fun e w' => e = .returned (.bool (digit c)) ∧ w = w' := by
  have e : digit c = (decide ((48 : Int) ≤ (c.toNat : Int)) && decide ((c.toNat : Int) ≤ 57)) := by
    unfold digit; congr 1 <;> (rw [decide_eq_decide]; omega)
  rw [e]; clear e
  by_cases h1 : (48 : Int) ≤ (c.toNat : Int)
  · have d1 : decide ((48 : Int) ≤ (c.toNat : Int)) = true := decide_eq_true h1
    clear h1
    go_enter Tryz.func81, Tryz.ntmps81
    go_wp2
    go_ret
    exact ⟨by simp [d1], rfl⟩
  · have d1 : decide ((48 : Int) ≤ (c.toNat : Int)) = false := decide_eq_false h1
    clear h1
    go_enter Tryz.func81, Tryz.ntmps81
    go_wp2
    go_ret
    exact ⟨by simp [d1], rfl⟩

/-- the kinds of signs that are alone -/
def sign (c : UInt8) : Nat := if c.toNat = 123 then 3 else if c.toNat = 125 then 4 else if c.toNat = 59 then 5 else 0

theorem rinner (c : UInt8) (w : World) : Calls Tryz.prog 65 #[.int .u8 c.toNat] w fun e w' => e = .returned (.bool (inner c)) ∧ w = w' := by
  have e : inner c = ((letter c || digit c) || ((c.toNat : Int) == 45)) := by
    unfold inner; congr 1; rw [Bool.eq_iff_iff]; simp; omega
  rw [e]; clear e
  have cl := rletter c
  have cd := rdigit c
  cases h1 : letter c with
  | true =>
    rw [h1] at cl
    go_enter Tryz.func65, Tryz.ntmps65
    go_wp2_with fail
    refine (cl _).mono ?_
    rintro e w' ⟨rfl, rfl⟩
    go_wp2_with fail
    go_ret
    exact ⟨rfl, rfl⟩
  | false =>
    rw [h1] at cl
    cases h2 : digit c with
    | true =>
      rw [h2] at cd
      go_enter Tryz.func65, Tryz.ntmps65
      go_wp2_with fail
      refine (cl _).mono ?_
      rintro e w' ⟨rfl, rfl⟩
      go_wp2_with fail
      refine (cd _).mono ?_
      rintro e w' ⟨rfl, rfl⟩
      go_wp2_with fail
      go_ret
      exact ⟨rfl, rfl⟩
    | false =>
      rw [h2] at cd
      go_enter Tryz.func65, Tryz.ntmps65
      go_wp2_with fail
      refine (cl _).mono ?_
      rintro e w' ⟨rfl, rfl⟩
      go_wp2_with fail
      refine (cd _).mono ?_
      rintro e w' ⟨rfl, rfl⟩
      go_wp2_with fail
      go_ret
      exact ⟨rfl, rfl⟩

end Go.Proofs.YtnjmokmlnpehdaaGreatDoor.Zr

namespace Go.Proofs.YtnjmokmlnpehdaaGreatDoor.Zr
set_option linter.unusedSimpArgs false
set_option linter.unusedVariables false
open Go.RowKit Go.Proofs.YtnjmokmlnpehdaaGreatDoor.Zm

set_option maxHeartbeats 1000000

/-- a text's bytes -/
abbrev by_ (s : ByteArray) : List UInt8 := s.data.toList

theorem by_len (s : ByteArray) : (by_ s).length = s.size := Array.length_toList

theorem by_get (s : ByteArray) (i : Nat) (h : i < s.size) : (by_ s)[i]'(by rw [by_len]; exact h) = s[i] := by
  simp [by_]; rfl

theorem letter_inner {c : UInt8} (h : letter c = true) : inner c = true := by unfold inner; rw [h]; rfl

theorem name_iff (s : ByteArray) : name (by_ s) = true ↔ (1 ≤ s.size ∧ s.size ≤ 16 ∧ (∀ h : 0 < s.size, letter s[0] = true) ∧ ∀ i (h : i < s.size), inner s[i] = true) := by
  have hl := by_len s
  have hg := by_get s
  cases hb : by_ s with
  | nil =>
    rw [hb] at hl
    simp at hl
    simp [name]; omega
  | cons c r =>
    rw [hb] at hl
    simp only [List.length_cons] at hl
    have h0 : s[0]'(by omega) = c := by rw [← hg 0 (by omega)]; simp [hb]
    have hi : ∀ i (h : i < r.length), s[i + 1]'(by omega) = r[i] := fun i h => by rw [← hg (i + 1) (by omega)]; simp [hb]
    simp only [name, Bool.and_eq_true, decide_eq_true_eq, List.all_eq_true]
    constructor
    · rintro ⟨⟨h1, h2⟩, h3⟩
      refine ⟨by omega, by omega, fun _ => by rw [h0]; exact h1, fun i h => ?_⟩
      cases i with
      | zero => rw [h0]; exact letter_inner h1
      | succ i => rw [hi i (by omega)]; exact h2 _ (List.getElem_mem _)
    · rintro ⟨h1, h2, h3, h4⟩
      refine ⟨⟨by rw [← h0]; exact h3 (by omega), fun d hd => ?_⟩, by omega⟩
      obtain ⟨i, h, rfl⟩ := List.mem_iff_getElem.1 hd
      rw [← hi i h]; exact h4 _ _

theorem bool_no {b : Bool} {P : Prop} (h : b = true ↔ P) (hp : ¬ P) : b = false := by
  cases b
  · rfl
  · exact absurd (h.1 rfl) hp

set_option maxRecDepth 100000 in
theorem rName (s : ByteArray) (w : World) (hm : s.size ≤ maxLen) :
    Calls Tryz.prog 45 #[.string s] w fun e w' => e = .returned (.bool (name (by_ s))) ∧ Below w.heap.size w w' := by
  unfold maxLen at hm
  have hn := name_iff s
  obtain ⟨v, hv⟩ : ∃ v, name (by_ s) = v := ⟨_, rfl⟩
  rw [hv] at hn ⊢
  clear hv
  by_cases h1 : s.size < 1
  · obtain rfl := bool_no hn (by omega)
    have d1 : decide ((s.size : Int) < 1) = true := decide_eq_true (by omega)
    clear h1 hn
    go_enter Tryz.func45, Tryz.ntmps45
    go_wp2
    go_ret
    exact ⟨rfl, Below.refl _ _⟩
  have d1 : decide ((s.size : Int) < 1) = false := decide_eq_false (by omega)
  by_cases h2 : 16 < s.size
  · obtain rfl := bool_no hn (by omega)
    have d2 : decide ((16 : Int) < (s.size : Int)) = true := decide_eq_true (by omega)
    clear h1 hn h2
    go_enter Tryz.func45, Tryz.ntmps45
    go_wp2
    go_ret
    exact ⟨rfl, Below.refl _ _⟩
  have d2 : decide ((16 : Int) < (s.size : Int)) = false := decide_eq_false (by omega)
  have hs : 0 < s.size := by omega
  have cl := rletter s[0]
  cases h3 : letter s[0] with
  | false =>
    obtain rfl := bool_no hn (fun h => by have := h.2.2.1 hs; rw [h3] at this; cases this)
    rw [h3] at cl
    clear h1 hn h2 h3
    go_enter Tryz.func45, Tryz.ntmps45
    go_wp2_with fail
    refine (cl _).mono ?_
    rintro e w' ⟨rfl, rfl⟩
    go_wp2_with fail
    go_ret
    exact ⟨rfl, Below.refl _ _⟩
  | true =>
    rw [h3] at cl
    have HN := Lib.hid hn
    have H3 := Lib.hid h3
    have s16 : s.size ≤ 16 := by omega
    clear h1 hn h2 h3
    go_enter Tryz.func45, Tryz.ntmps45
    go_wp2_with fail
    refine (cl _).mono ?_
    rintro e w' ⟨rfl, rfl⟩
    go_wp2_with fail
    go_loopw [20] (fun I wr => ∃ pos : Nat, pos ≤ s.size ∧ I = .int .i64 pos ∧ Below w.heap.size w wr ∧ Hid (∀ i (h : i < s.size), i < pos → inner s[i] = true)) (fun I _ => 20 - (intOf I).toNat)
    case atStart => exact ⟨0, by omega, rfl, Below.refl _ _, Lib.hid (fun i h h0 => by omega)⟩
    case round =>
      obtain ⟨pos, hp, rfl, hb, hi⟩ := hrel
      have pp : (0 : Int) ≤ (pos : Int) := by omega
      by_cases hlt : pos < s.size
      · have ci := rinner s[pos]
        cases h4 : inner s[pos] with
        | false =>
          rw [h4] at ci
          have hv : Hid (v = false) := Lib.hid (bool_no HN.out (fun h => by have := h.2.2.2 pos hlt; rw [h4] at this; cases this))
          clear h4
          go_wp2_with fail
          refine (ci _).mono ?_
          rintro e w' ⟨rfl, rfl⟩
          go_wp2_with fail
          go_ret
          exact ⟨by rw [hv.out]; rfl, hb⟩
        | true =>
          rw [h4] at ci
          have HI : Hid (∀ i (h : i < s.size), i < pos + 1 → inner s[i] = true) := Lib.hid (fun i h hi' => by
            rcases Nat.lt_or_ge i pos with g | g
            · exact hi.out i h g
            · obtain rfl : i = pos := by omega
              exact h4)
          clear h4
          go_wp2_with fail
          refine (ci _).mono ?_
          rintro e w' ⟨rfl, rfl⟩
          go_wp2_with fail
          go_roundw
          case rel => exact ⟨pos + 1, by omega, by go_num, hb, HI⟩
          case measure => simp [intOf]; omega
      · have hv : Hid (v = true) := Lib.hid (HN.out.2 ⟨hs, s16, fun _ => H3.out, fun i h => hi.out i h (by omega)⟩)
        obtain rfl : pos = s.size := by omega
        go_wp2_with fail
        go_ret
        exact ⟨by rw [hv.out]; rfl, hb⟩

end Go.Proofs.YtnjmokmlnpehdaaGreatDoor.Zr

namespace Go.Proofs.YtnjmokmlnpehdaaGreatDoor.Zp
set_option linter.unusedSimpArgs false
set_option linter.unusedVariables false
open Go.RowKit Go.Proofs.YtnjmokmlnpehdaaGreatDoor.Zm Go.Proofs.YtnjmokmlnpehdaaGreatDoor.Zr

set_option maxHeartbeats 1000000

theorem isLetter_any (c : UInt8) (w : World) : Calls Tryz.prog 48 #[.int .u8 c.toNat] w fun e w' => e = .returned (.bool (letter c)) ∧ w = w' := by
  have e : letter c = (decide ((97 : Int) ≤ (c.toNat : Int)) && decide ((c.toNat : Int) ≤ 122)) := by
    unfold letter; congr 1 <;> (rw [decide_eq_decide]; omega)
  rw [e]; clear e
  by_cases h1 : (97 : Int) ≤ (c.toNat : Int)
  · have d1 : decide ((97 : Int) ≤ (c.toNat : Int)) = true := decide_eq_true h1
    clear h1
    go_enter Tryz.func48, Tryz.ntmps48
    go_wp2
    go_ret
    exact ⟨by simp [d1], rfl⟩
  · have d1 : decide ((97 : Int) ≤ (c.toNat : Int)) = false := decide_eq_false h1
    clear h1
    go_enter Tryz.func48, Tryz.ntmps48
    go_wp2
    go_ret
    exact ⟨by simp [d1], rfl⟩

theorem isDigit_any (c : UInt8) (w : World) : Calls Tryz.prog 67 #[.int .u8 c.toNat] w fun e w' => e = .returned (.bool (digit c)) ∧ w = w' := by
  have e : digit c = (decide ((48 : Int) ≤ (c.toNat : Int)) && decide ((c.toNat : Int) ≤ 57)) := by
    unfold digit; congr 1 <;> (rw [decide_eq_decide]; omega)
  rw [e]; clear e
  by_cases h1 : (48 : Int) ≤ (c.toNat : Int)
  · have d1 : decide ((48 : Int) ≤ (c.toNat : Int)) = true := decide_eq_true h1
    clear h1
    go_enter Tryz.func67, Tryz.ntmps67
    go_wp2
    go_ret
    exact ⟨by simp [d1], rfl⟩
  · have d1 : decide ((48 : Int) ≤ (c.toNat : Int)) = false := decide_eq_false h1
    clear h1
    go_enter Tryz.func67, Tryz.ntmps67
    go_wp2
    go_ret
    exact ⟨by simp [d1], rfl⟩

theorem inName_any (c : UInt8) (w : World) : Calls Tryz.prog 50 #[.int .u8 c.toNat] w fun e w' => e = .returned (.bool (inner c)) ∧ w = w' := by
  have e : inner c = ((letter c || digit c) || ((c.toNat : Int) == 45)) := by
    unfold inner; congr 1; rw [Bool.eq_iff_iff]; simp; omega
  rw [e]; clear e
  have cl := isLetter_any c
  have cd := isDigit_any c
  cases h1 : letter c with
  | true =>
    rw [h1] at cl
    go_enter Tryz.func50, Tryz.ntmps50
    go_wp2_with fail
    refine (cl _).mono ?_
    rintro e w' ⟨rfl, rfl⟩
    go_wp2_with fail
    go_ret
    exact ⟨rfl, rfl⟩
  | false =>
    rw [h1] at cl
    cases h2 : digit c with
    | true =>
      rw [h2] at cd
      go_enter Tryz.func50, Tryz.ntmps50
      go_wp2_with fail
      refine (cl _).mono ?_
      rintro e w' ⟨rfl, rfl⟩
      go_wp2_with fail
      refine (cd _).mono ?_
      rintro e w' ⟨rfl, rfl⟩
      go_wp2_with fail
      go_ret
      exact ⟨rfl, rfl⟩
    | false =>
      rw [h2] at cd
      go_enter Tryz.func50, Tryz.ntmps50
      go_wp2_with fail
      refine (cl _).mono ?_
      rintro e w' ⟨rfl, rfl⟩
      go_wp2_with fail
      refine (cd _).mono ?_
      rintro e w' ⟨rfl, rfl⟩
      go_wp2_with fail
      go_ret
      exact ⟨rfl, rfl⟩


theorem isBlank_any (c : UInt8) (w : World) : Calls Tryz.prog 84 #[.int .u8 c.toNat] w fun e w' => e = .returned (.bool (Zm.blank c)) ∧ w = w' := by
  have e : Zm.blank c = ((((c.toNat : Int) == 32) || ((c.toNat : Int) == 9)) || ((c.toNat : Int) == 10)) := by
    unfold Zm.blank; rw [Bool.eq_iff_iff]; simp; omega
  rw [e]; clear e
  cases h1 : ((c.toNat : Int) == 32) with
  | true =>
    go_enter Tryz.func84, Tryz.ntmps84
    go_wp2
    go_ret
    exact ⟨rfl, rfl⟩
  | false =>
    cases h2 : ((c.toNat : Int) == 9) with
    | true =>
      go_enter Tryz.func84, Tryz.ntmps84
      go_wp2
      go_ret
      exact ⟨rfl, rfl⟩
    | false =>
      go_enter Tryz.func84, Tryz.ntmps84
      go_wp2
      go_ret
      exact ⟨rfl, rfl⟩

theorem inRemark_any (c : UInt8) (w : World) : Calls Tryz.prog 85 #[.int .u8 c.toNat] w fun e w' => e = .returned (.bool (onLine c)) ∧ w = w' := by
  have e : onLine c = ((c.toNat : Int) != 10) := by
    unfold onLine; rw [Bool.eq_iff_iff]; simp; omega
  rw [e]; clear e
  go_enter Tryz.func85, Tryz.ntmps85
  go_wp2
  go_ret
  exact ⟨rfl, rfl⟩

/-- a function value that asks of a byte -/
structure Asks (K : Nat) (p : UInt8 → Bool) : Prop where
  enter : ∀ az w1, Sem.run Tryz.prog (callFunc K az) w1 = .ok (.enter K az) w1
  calls : ∀ (c : UInt8) (w : World), Calls Tryz.prog K #[.int .u8 c.toNat] w fun e w' => e = .returned (.bool (p c)) ∧ w = w'

theorem asks_blank : Asks 84 Zm.blank := ⟨fun _ _ => by kernel_rfl, isBlank_any⟩
theorem asks_digit : Asks 67 digit := ⟨fun _ _ => by kernel_rfl, isDigit_any⟩
theorem asks_inner : Asks 50 inner := ⟨fun _ _ => by kernel_rfl, inName_any⟩
theorem asks_line : Asks 85 onLine := ⟨fun _ _ => by kernel_rfl, inRemark_any⟩

theorem tw_at {p : UInt8 → Bool} (l : List UInt8) : ∀ (i : Nat) (h : i < l.length), i < (l.takeWhile p).length → p l[i] = true := by
  induction l with
  | nil => intro i h; simp at h
  | cons c r ih =>
    intro i h hi
    by_cases hc : p c = true
    · rw [List.takeWhile_cons, if_pos hc, List.length_cons] at hi
      cases i with
      | zero => exact hc
      | succ i => exact ih i (by simpa using h) (by omega)
    · rw [List.takeWhile_cons, if_neg hc] at hi; simp at hi

theorem tw_end {p : UInt8 → Bool} (l : List UInt8) (h : (l.takeWhile p).length < l.length) : p l[(l.takeWhile p).length] = false := by
  have := drop_takeWhile (p := p) l
  exact this _ _ (List.drop_eq_getElem_cons h)

set_option maxRecDepth 100000 in
theorem run_any (K : Nat) (p : UInt8 → Bool) (A : Asks K p) (s : ByteArray) (n : Nat) (w : World) (hm : s.size ≤ 1000000) (hn : ((by_ s).takeWhile p).length = n) :
    Calls Tryz.prog 49 #[.string s, .func (.func K) #[] #[]] w fun e w' => e = .returned (.int .i64 n) ∧ w = w' := by
  have hE := A.enter
  have hle : n ≤ s.size := by rw [← hn, ← by_len]; exact takeWhile_le _
  have H1 : Hid (∀ i (h : i < s.size), i < n → p s[i] = true) := Lib.hid (fun i h g => by rw [← by_get s i h]; exact tw_at _ i _ (by rw [hn]; exact g))
  have H2 : Hid (∀ h : n < s.size, p s[n] = false) := Lib.hid (fun h => by subst hn; rw [← by_get s _ h]; exact tw_end _ (by rw [by_len]; exact h))
  have hc := A.calls
  clear hn A
  go_enter Tryz.func49, Tryz.ntmps49
  go_wp2_with fail
  go_loop [5] (fun I => ∃ k : Nat, k ≤ n ∧ I = .int .i64 k) (fun I => n - (intOf I).toNat)
  case atStart => exact ⟨0, by omega, rfl⟩
  case round =>
    obtain ⟨k, hk, rfl⟩ := hrel
    by_cases hlt : k < n
    · have hks : k < s.size := by omega
      have ck := fun w => hc s[k] w
      rw [H1.out k hks hlt] at ck
      have HC := Lib.hid hc
      clear hc
      go_wp2_with fail
      refine (ck _).mono ?_
      rintro e w' ⟨rfl, rfl⟩
      go_wp2_with fail
      go_round
      case rel => exact ⟨k + 1, by omega, by go_num⟩
      case measure => simp [intOf]; omega
    · obtain rfl : k = n := by omega
      by_cases hks : k < s.size
      · have ck := fun w => hc s[k] w
        rw [H2.out hks] at ck
        have HC := Lib.hid hc
        clear hc
        go_wp2_with fail
        refine (ck _).mono ?_
        rintro e w' ⟨rfl, rfl⟩
        go_wp2_with fail
        go_ret
        exact ⟨rfl, rfl⟩
      · obtain rfl : k = s.size := by omega
        have HC := Lib.hid hc
        clear hc
        go_wp2_with fail
        go_ret
        exact ⟨rfl, rfl⟩

theorem by_extract (s : ByteArray) (a b : Nat) (h : a ≤ b) (hb : b ≤ s.size) : by_ (s.extract a b) = ((by_ s).take b).drop a := by
  show (s.extract a b).data.toList = _
  simp [ByteArray.data_extract, by_, List.drop_take]

theorem slice_from (s : ByteArray) (a : Nat) (h : a ≤ s.size) : ∃ t : ByteArray, by_ t = (by_ s).drop a ∧ t.size = s.size - a ∧
    ∀ w, (Instr.slice 9 (.string s) (some (.int .i64 (a : Int))) none none).run Tryz.prog w = .ok (.string t) w := by
  refine ⟨s.extract a s.size, ?_, ?_, fun w => ?_⟩
  · rw [by_extract s a _ h (Nat.le_refl _), List.take_of_length_le (by rw [by_len]; omega)]
  · rw [ByteArray.size_extract]; omega
  · rw [run_slice_string_from_if _ _ _ _ _ Tryz.underlying9, if_pos ⟨by omega, by omega⟩]; simp

theorem slice_mid (s : ByteArray) (a b : Nat) (h : a ≤ b) (hb : b ≤ s.size) : ∃ t : ByteArray, by_ t = ((by_ s).drop a).take (b - a) ∧ t.size = b - a ∧
    ∀ w, (Instr.slice 9 (.string s) (some (.int .i64 (a : Int))) (some (.int .i64 (b : Int))) none).run Tryz.prog w = .ok (.string t) w := by
  refine ⟨s.extract a b, ?_, ?_, fun w => ?_⟩
  · rw [by_extract s a b h hb, List.drop_take]
  · rw [ByteArray.size_extract]; omega
  · rw [run_slice_string _ _ _ _ _ _ _ Tryz.underlying9 (by omega) (by omega) (by omega)]; simp

theorem drop_at (s : ByteArray) (p : Nat) (h : p < s.size) : (by_ s).drop p = s[p] :: (by_ s).drop (p + 1) := by
  rw [← by_get s p h]; exact List.drop_eq_getElem_cons _

/-- p: behind what is passed over from a on -/
def Passed (s : ByteArray) (a p : Nat) : Prop :=
  a ≤ p ∧ p ≤ s.size ∧ (∀ acc, tot ((by_ s).drop p) p acc = tot ((by_ s).drop a) a acc) ∧ (∀ h : p < s.size, Zm.blank s[p] = false ∧ s[p].toNat ≠ 35)

def PassRes (s : ByteArray) (a : Nat) (w : World) (e : Ending) (w' : World) : Prop := ∃ p : Nat, e = .returned (.int .i64 p) ∧ Passed s a p ∧ w = w'

set_option maxRecDepth 100000 in
theorem pass_any (s : ByteArray) (a : Nat) (w : World) (ha : a ≤ s.size) (hm : s.size ≤ 1000000) :
    Calls Tryz.prog 69 #[.string s, .int .i64 a] w fun e w' => PassRes s a w e w' := by
  go_enter Tryz.func69, Tryz.ntmps69
  go_wp2_with fail
  go_loop [1] (fun I => ∃ p : Nat, a ≤ p ∧ p ≤ s.size ∧ I = .int .i64 p ∧ Hid (∀ acc, tot ((by_ s).drop p) p acc = tot ((by_ s).drop a) a acc)) (fun I => s.size - (intOf I).toNat)
  case atStart => exact ⟨a, by omega, ha, rfl, Lib.hid (fun _ => rfl)⟩
  case round =>
    obtain ⟨p, h1, h2, rfl, HT⟩ := hrel
    obtain ⟨t, ht, hz, hs⟩ := slice_from s p h2
    obtain ⟨n, hn⟩ : ∃ n, ((by_ t).takeWhile Zm.blank).length = n := ⟨_, rfl⟩
    have hnl : n ≤ s.size - p := by rw [← hn, ← hz, ← by_len]; exact takeWhile_le _
    have c1 := run_any _ _ asks_blank t n w (by omega) hn
    -- behind the blanks
    obtain ⟨q, hq⟩ : ∃ q, p + n = q := ⟨_, rfl⟩
    have hqs : q ≤ s.size := by omega
    have hpq : p ≤ q := by omega
    have T1 : Hid (∀ acc, tot ((by_ s).drop q) q acc = tot ((by_ s).drop a) a acc) := Lib.hid (fun acc => by
      rw [← HT.out acc, tot_blanks n ((by_ s).drop p) p acc (by rw [← ht]; exact hn), List.drop_drop, hq])
    have B1 : Hid (∀ h : q < s.size, Zm.blank s[q] = false) := Lib.hid (fun h => by
      have := drop_takeWhile (p := Zm.blank) ((by_ s).drop p)
      rw [← ht, hn, ht, List.drop_drop, hq] at this
      exact this _ _ (drop_at s q h))
    have S1 : IntKind.i64.wrap ((p : Int) + (n : Int)) = (q : Int) := by rw [IntWalk.i64_in _ (by omega)]; omega
    clear hn hz ht HT hq
    by_cases hlt : q < s.size
    · have d1 : ((q : Int) == (s.size : Int)) = false := beq_eq_false_iff_ne.2 (by omega)
      by_cases h35 : s[q].toNat = 35
      · have d2 : ((s[q].toNat : Int) != 35) = false := by rw [h35]; rfl
        obtain ⟨t2, ht2, hz2, hs2⟩ := slice_from s q hqs
        obtain ⟨m, hm2⟩ : ∃ m, ((by_ t2).takeWhile onLine).length = m := ⟨_, rfl⟩
        have hml : m ≤ s.size - q := by rw [← hm2, ← hz2, ← by_len]; exact takeWhile_le _
        have c2 := run_any _ _ asks_line t2 m w (by omega) hm2
        have hm1 : 1 ≤ m := by
          rw [← hm2, ht2, drop_at s q hlt, List.takeWhile_cons, if_pos (by unfold onLine; rw [h35]; rfl)]; simp
        obtain ⟨r, hr⟩ : ∃ r, q + m = r := ⟨_, rfl⟩
        have hqr : q < r := by omega
        have hrs : r ≤ s.size := by omega
        have T2 : Hid (∀ acc, tot ((by_ s).drop r) r acc = tot ((by_ s).drop a) a acc) := Lib.hid (fun acc => by
          rw [← T1.out acc]
          have e := tot_remark (c := s[q]) (r := (by_ s).drop (q + 1)) q acc h35
          rw [← drop_at s q hlt, ← ht2, hm2, ht2, List.drop_drop, hr] at e
          exact e.symm)
        have S2 : IntKind.i64.wrap ((q : Int) + (m : Int)) = (r : Int) := by rw [IntWalk.i64_in _ (by omega)]; omega
        clear hm2 hz2 ht2 h35 T1 B1 hr
        go_wp2_with fail
        refine c1.mono ?_
        rintro e w' ⟨rfl, rfl⟩
        go_wp2_with fail
        refine c2.mono ?_
        rintro e w' ⟨rfl, rfl⟩
        go_wp2_with fail
        go_round
        case rel => exact ⟨r, by omega, by omega, rfl, T2⟩
        case measure => simp [intOf]; omega
      · have d2 : ((s[q].toNat : Int) != 35) = true := bne_iff_ne.2 (by omega)
        have Y : Hid (PassRes s a w (.returned (.int .i64 q)) w) := Lib.hid ⟨q, rfl, ⟨by omega, hqs, T1.out, fun h => ⟨B1.out h, h35⟩⟩, rfl⟩
        clear h35 T1 B1
        go_wp2_with fail
        refine c1.mono ?_
        rintro e w' ⟨rfl, rfl⟩
        go_wp2_with fail
        go_ret
        exact Y.out
    · have d1 : ((q : Int) == (s.size : Int)) = true := beq_iff_eq.2 (by omega)
      have Y : Hid (PassRes s a w (.returned (.int .i64 q)) w) := Lib.hid ⟨q, rfl, ⟨by omega, hqs, T1.out, fun h => absurd h hlt⟩, rfl⟩
      clear T1 B1
      go_wp2_with fail
      refine c1.mono ?_
      rintro e w' ⟨rfl, rfl⟩
      go_wp2_with fail
      go_ret
      exact Y.out

end Go.Proofs.YtnjmokmlnpehdaaGreatDoor.Zp

namespace Go.Proofs.YtnjmokmlnpehdaaGreatDoor.Zp
set_option linter.unusedSimpArgs false
set_option linter.unusedVariables false
open Go.RowKit Go.Proofs.YtnjmokmlnpehdaaGreatDoor.Zm Go.Proofs.YtnjmokmlnpehdaaGreatDoor.Zr

set_option maxHeartbeats 1000000

theorem tw_full {p : UInt8 → Bool} (l : List UInt8) : (l.takeWhile p).length = l.length ↔ ∀ c ∈ l, p c = true := by
  induction l with
  | nil => simp
  | cons c r ih =>
    by_cases h : p c = true
    · simp [List.takeWhile_cons, h, ih]
    · simp [List.takeWhile_cons, h]

theorem text_not_empty (s : ByteArray) (h : 0 < s.size) : ¬ s.toList = [] ∧ s.toList.isEmpty = false := by
  have : s.toList ≠ [] := by
    rw [ByteArray.toList_eq]
    intro e
    have := by_len s
    rw [show by_ s = [] from e] at this
    simp at this; omega
  exact ⟨this, by cases hq : s.toList with
    | nil => exact absurd hq this
    | cons c r => rfl⟩

theorem name_tw (s : ByteArray) (h1 : 1 ≤ s.size) : name (by_ s) = (letter (s[0]'(by omega)) && (decide (s.size ≤ 16) && decide (((by_ s).takeWhile inner).length = s.size))) := by
  have hf := tw_full (p := inner) (by_ s)
  rw [by_len] at hf
  rw [Bool.eq_iff_iff, name_iff]
  simp only [Bool.and_eq_true, decide_eq_true_eq, hf]
  constructor
  · rintro ⟨_, h2, h3, h4⟩
    refine ⟨h3 (by omega), h2, fun c hc => ?_⟩
    obtain ⟨i, hi, rfl⟩ := List.mem_iff_getElem.1 hc
    rw [by_len] at hi
    rw [by_get s i hi]; exact h4 i hi
  · rintro ⟨h2, h3, h4⟩
    refine ⟨h1, h3, fun _ => h2, fun i hi => ?_⟩
    rw [← by_get s i hi]; exact h4 _ (List.getElem_mem _)

set_option maxRecDepth 100000 in
theorem Name_any (s : ByteArray) (w : World) (hm : s.size ≤ maxLen) :
    Calls Tryz.prog 24 #[.string s] w fun e w' => e = .returned (.bool (name (by_ s))) ∧ w = w' := by
  unfold maxLen at hm
  by_cases h0 : s.size = 0
  · obtain rfl : s = ⟨#[]⟩ := by apply ByteArray.ext; exact Array.eq_empty_of_size_eq_zero h0
    clear h0 hm
    go_enter Tryz.func24, Tryz.ntmps24
    go_wp2_with fail
    go_ret
    exact ⟨rfl, rfl⟩
  · have hn := name_tw s (by omega)
    have hs : 0 < s.size := by omega
    obtain ⟨en, ee⟩ := text_not_empty s hs
    have cl := isLetter_any s[0]
    cases h1 : letter s[0] with
    | false =>
      rw [h1] at cl hn
      have HN := Lib.hid hn
      clear hn h1 h0
      go_enter Tryz.func24, Tryz.ntmps24
      go_wp2_with fail
      refine (cl _).mono ?_
      rintro e w' ⟨rfl, rfl⟩
      go_wp2_with fail
      go_ret
      exact ⟨by rw [HN.out]; rfl, rfl⟩
    | true =>
      rw [h1] at cl hn
      by_cases h16 : s.size ≤ 16
      · have d1 : decide ((s.size : Int) ≤ 16) = true := decide_eq_true (by omega)
        obtain ⟨n, hr⟩ : ∃ n, ((by_ s).takeWhile inner).length = n := ⟨_, rfl⟩
        have cr := run_any _ _ asks_inner s n w (by omega) hr
        rw [hr] at hn
        have hd : decide (n = s.size) = ((n : Int) == (s.size : Int)) := by rw [Bool.eq_iff_iff]; simp; omega
        rw [hd] at hn
        have HN := Lib.hid hn
        clear hn h1 h0 hr hd
        go_enter Tryz.func24, Tryz.ntmps24
        go_wp2_with fail
        refine (cl _).mono ?_
        rintro e w' ⟨rfl, rfl⟩
        go_wp2_with fail
        refine cr.mono ?_
        rintro e w' ⟨rfl, rfl⟩
        go_wp2_with fail
        go_ret
        exact ⟨by rw [HN.out]; simp [h16], rfl⟩
      · have d1 : decide ((s.size : Int) ≤ 16) = false := decide_eq_false (by omega)
        have HN := Lib.hid hn
        clear hn h1 h0
        go_enter Tryz.func24, Tryz.ntmps24
        go_wp2_with fail
        refine (cl _).mono ?_
        rintro e w' ⟨rfl, rfl⟩
        go_wp2_with fail
        go_ret
        exact ⟨by rw [HN.out]; simp [h16], rfl⟩

end Go.Proofs.YtnjmokmlnpehdaaGreatDoor.Zp
