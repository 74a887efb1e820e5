/- What the small functions of package lex come to: letters, digits, blanks; a run of bytes; what is passed over. -/
import Derived.Test.YtkpjkdeomoecjaaDoorZref2
import Derived.IntWalk
import Derived.Test.YtkpjkdeomoecjaaDoorZlaw4
namespace Go.Proofs.YtkpjkdeomoecjaaDoor.Zp
set_option linter.unusedSimpArgs false
set_option linter.unusedVariables false
open Go.RowKit Go.Proofs.YtkpjkdeomoecjaaDoor.Zm Go.Proofs.YtkpjkdeomoecjaaDoor.Zr

set_option maxHeartbeats 1000000

theorem isLetter_any (c : UInt8) (w : World) : Calls Tryd.prog 77 #[.int .u8 c.toNat] w fun e w' => e = .returned (.bool (letter c)) ∧ w = w' := by
  have e : letter c = (decide ((97 : Int) ≤ (c.toNat : Int)) && decide ((c.toNat : Int) ≤ 122)) := by
    unfold letter; congr 1 <;> (rw [decide_eq_decide]; omega)
  rw [e]; clear e
  by_cases h1 : (97 : Int) ≤ (c.toNat : Int)
  · have d1 : decide ((97 : Int) ≤ (c.toNat : Int)) = true := decide_eq_true h1
    clear h1
    go_enter Tryd.func77, Tryd.ntmps77
    go_wp2
    go_ret
    exact ⟨by simp [d1], rfl⟩
  · have d1 : decide ((97 : Int) ≤ (c.toNat : Int)) = false := decide_eq_false h1
    clear h1
    go_enter Tryd.func77, Tryd.ntmps77
    go_wp2
    go_ret
    exact ⟨by simp [d1], rfl⟩

theorem isDigit_any (c : UInt8) (w : World) : Calls Tryd.prog 88 #[.int .u8 c.toNat] w fun e w' => e = .returned (.bool (digit c)) ∧ w = w' := by
  have e : digit c = (decide ((48 : Int) ≤ (c.toNat : Int)) && decide ((c.toNat : Int) ≤ 57)) := by
    unfold digit; congr 1 <;> (rw [decide_eq_decide]; omega)
  rw [e]; clear e
  by_cases h1 : (48 : Int) ≤ (c.toNat : Int)
  · have d1 : decide ((48 : Int) ≤ (c.toNat : Int)) = true := decide_eq_true h1
    clear h1
    go_enter Tryd.func88, Tryd.ntmps88
    go_wp2
    go_ret
    exact ⟨by simp [d1], rfl⟩
  · have d1 : decide ((48 : Int) ≤ (c.toNat : Int)) = false := decide_eq_false h1
    clear h1
    go_enter Tryd.func88, Tryd.ntmps88
    go_wp2
    go_ret
    exact ⟨by simp [d1], rfl⟩

theorem inName_any (c : UInt8) (w : World) : Calls Tryd.prog 79 #[.int .u8 c.toNat] w fun e w' => e = .returned (.bool (inner c)) ∧ w = w' := by
  have e : inner c = ((letter c || digit c) || ((c.toNat : Int) == 45)) := by
    unfold inner; congr 1; rw [Bool.eq_iff_iff]; simp; omega
  rw [e]; clear e
  have cl := isLetter_any c
  have cd := isDigit_any c
  cases h1 : letter c with
  | true =>
    rw [h1] at cl
    go_enter Tryd.func79, Tryd.ntmps79
    go_wp2_with fail
    refine (cl _).mono ?_
    rintro e w' ⟨rfl, rfl⟩
    go_wp2_with fail
    go_ret
    exact ⟨rfl, rfl⟩
  | false =>
    rw [h1] at cl
    cases h2 : digit c with
    | true =>
      rw [h2] at cd
      go_enter Tryd.func79, Tryd.ntmps79
      go_wp2_with fail
      refine (cl _).mono ?_
      rintro e w' ⟨rfl, rfl⟩
      go_wp2_with fail
      refine (cd _).mono ?_
      rintro e w' ⟨rfl, rfl⟩
      go_wp2_with fail
      go_ret
      exact ⟨rfl, rfl⟩
    | false =>
      rw [h2] at cd
      go_enter Tryd.func79, Tryd.ntmps79
      go_wp2_with fail
      refine (cl _).mono ?_
      rintro e w' ⟨rfl, rfl⟩
      go_wp2_with fail
      refine (cd _).mono ?_
      rintro e w' ⟨rfl, rfl⟩
      go_wp2_with fail
      go_ret
      exact ⟨rfl, rfl⟩


/-- a function value that asks of a byte -/
structure Asks (K : Nat) (p : UInt8 → Bool) : Prop where
  enter : ∀ az w1, Sem.run Tryd.prog (callFunc K az) w1 = .ok (.enter K az) w1
  calls : ∀ (c : UInt8) (w : World), Calls Tryd.prog K #[.int .u8 c.toNat] w fun e w' => e = .returned (.bool (p c)) ∧ w = w'

theorem asks_digit : Asks 88 digit := ⟨fun _ _ => by kernel_rfl, isDigit_any⟩
theorem asks_inner : Asks 79 inner := ⟨fun _ _ => by kernel_rfl, inName_any⟩
theorem tw_at {p : UInt8 → Bool} (l : List UInt8) : ∀ (i : Nat) (h : i < l.length), i < (l.takeWhile p).length → p l[i] = true := by
  induction l with
  | nil => intro i h; simp at h
  | cons c r ih =>
    intro i h hi
    by_cases hc : p c = true
    · rw [List.takeWhile_cons, if_pos hc, List.length_cons] at hi
      cases i with
      | zero => exact hc
      | succ i => exact ih i (by simpa using h) (by omega)
    · rw [List.takeWhile_cons, if_neg hc] at hi; simp at hi

theorem tw_end {p : UInt8 → Bool} (l : List UInt8) (h : (l.takeWhile p).length < l.length) : p l[(l.takeWhile p).length] = false := by
  have := drop_takeWhile (p := p) l
  exact this _ _ (List.drop_eq_getElem_cons h)

set_option maxRecDepth 100000 in
theorem run_any (K : Nat) (p : UInt8 → Bool) (A : Asks K p) (s : ByteArray) (n : Nat) (w : World) (hm : s.size ≤ 1000000) (hn : ((by_ s).takeWhile p).length = n) :
    Calls Tryd.prog 78 #[.string s, .func (.func K) #[] #[]] w fun e w' => e = .returned (.int .i64 n) ∧ w = w' := by
  have hE := A.enter
  have hle : n ≤ s.size := by rw [← hn, ← by_len]; exact takeWhile_le _
  have H1 : Hid (∀ i (h : i < s.size), i < n → p s[i] = true) := Lib.hid (fun i h g => by rw [← by_get s i h]; exact tw_at _ i _ (by rw [hn]; exact g))
  have H2 : Hid (∀ h : n < s.size, p s[n] = false) := Lib.hid (fun h => by subst hn; rw [← by_get s _ h]; exact tw_end _ (by rw [by_len]; exact h))
  have hc := A.calls
  clear hn A
  go_enter Tryd.func78, Tryd.ntmps78
  go_wp2_with fail
  go_loop [5] (fun I => ∃ k : Nat, k ≤ n ∧ I = .int .i64 k) (fun I => n - (intOf I).toNat)
  case atStart => exact ⟨0, by omega, rfl⟩
  case round =>
    obtain ⟨k, hk, rfl⟩ := hrel
    by_cases hlt : k < n
    · have hks : k < s.size := by omega
      have ck := fun w => hc s[k] w
      rw [H1.out k hks hlt] at ck
      have HC := Lib.hid hc
      clear hc
      go_wp2_with fail
      refine (ck _).mono ?_
      rintro e w' ⟨rfl, rfl⟩
      go_wp2_with fail
      go_round
      case rel => exact ⟨k + 1, by omega, by go_num⟩
      case measure => simp [intOf]; omega
    · obtain rfl : k = n := by omega
      by_cases hks : k < s.size
      · have ck := fun w => hc s[k] w
        rw [H2.out hks] at ck
        have HC := Lib.hid hc
        clear hc
        go_wp2_with fail
        refine (ck _).mono ?_
        rintro e w' ⟨rfl, rfl⟩
        go_wp2_with fail
        go_ret
        exact ⟨rfl, rfl⟩
      · obtain rfl : k = s.size := by omega
        have HC := Lib.hid hc
        clear hc
        go_wp2_with fail
        go_ret
        exact ⟨rfl, rfl⟩

theorem by_extract (s : ByteArray) (a b : Nat) (h : a ≤ b) (hb : b ≤ s.size) : by_ (s.extract a b) = ((by_ s).take b).drop a := by
  show (s.extract a b).data.toList = _
  simp [ByteArray.data_extract, by_, List.drop_take]

theorem slice_from (s : ByteArray) (a : Nat) (h : a ≤ s.size) : ∃ t : ByteArray, by_ t = (by_ s).drop a ∧ t.size = s.size - a ∧
    ∀ w, (Instr.slice 9 (.string s) (some (.int .i64 (a : Int))) none none).run Tryd.prog w = .ok (.string t) w := by
  refine ⟨s.extract a s.size, ?_, ?_, fun w => ?_⟩
  · rw [by_extract s a _ h (Nat.le_refl _), List.take_of_length_le (by rw [by_len]; omega)]
  · rw [ByteArray.size_extract]; omega
  · rw [run_slice_string_from_if _ _ _ _ _ Tryd.underlying9, if_pos ⟨by omega, by omega⟩]; simp

theorem slice_mid (s : ByteArray) (a b : Nat) (h : a ≤ b) (hb : b ≤ s.size) : ∃ t : ByteArray, by_ t = ((by_ s).drop a).take (b - a) ∧ t.size = b - a ∧
    ∀ w, (Instr.slice 9 (.string s) (some (.int .i64 (a : Int))) (some (.int .i64 (b : Int))) none).run Tryd.prog w = .ok (.string t) w := by
  refine ⟨s.extract a b, ?_, ?_, fun w => ?_⟩
  · rw [by_extract s a b h hb, List.drop_take]
  · rw [ByteArray.size_extract]; omega
  · rw [run_slice_string _ _ _ _ _ _ _ Tryd.underlying9 (by omega) (by omega) (by omega)]; simp

theorem drop_at (s : ByteArray) (p : Nat) (h : p < s.size) : (by_ s).drop p = s[p] :: (by_ s).drop (p + 1) := by
  rw [← by_get s p h]; exact List.drop_eq_getElem_cons _

/-- p: behind what is passed over from a on -/
def Passed (s : ByteArray) (a p : Nat) : Prop :=
  a ≤ p ∧ p ≤ s.size ∧ (∀ acc, tot ((by_ s).drop p) p acc = tot ((by_ s).drop a) a acc) ∧ (∀ h : p < s.size, Zm.blank s[p] = false ∧ s[p].toNat ≠ 35)

def PassRes (s : ByteArray) (a : Nat) (w : World) (e : Ending) (w' : World) : Prop := ∃ p : Nat, e = .returned (.int .i64 p) ∧ Passed s a p ∧ w = w'

end Go.Proofs.YtkpjkdeomoecjaaDoor.Zp
