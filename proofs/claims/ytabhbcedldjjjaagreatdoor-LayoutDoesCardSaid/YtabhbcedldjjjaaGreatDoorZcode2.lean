/- What Name, cutName, cutNumber and cutOne of package lex come to. -/
import Derived.Test.YtabhbcedldjjjaaGreatDoorZmap
import Derived.Test.YtabhbcedldjjjaaGreatDoorZrow
import Derived.Test.YtabhbcedldjjjaaGreatDoorShelf
import Derived.Test.YtabhbcedldjjjaaGreatDoorJK
import Derived.Lib.SmallJoins
namespace Go.Proofs.YtabhbcedldjjjaaGreatDoor.Zp
set_option linter.unusedSimpArgs false
set_option linter.unusedVariables false
open Go.RowKit Go.Maps Go.Proofs.YtabhbcedldjjjaaGreatDoor.Zm Go.Proofs.YtabhbcedldjjjaaGreatDoor.Zr Go.Proofs.YtabhbcedldjjjaaGreatDoor.Bn

set_option maxHeartbeats 1000000

theorem tw_full {p : UInt8 → Bool} (l : List UInt8) : (l.takeWhile p).length = l.length ↔ ∀ c ∈ l, p c = true := by
  induction l with
  | nil => simp
  | cons c r ih =>
    by_cases h : p c = true
    · simp [List.takeWhile_cons, h, ih]
    · simp [List.takeWhile_cons, h]

theorem text_not_empty (s : ByteArray) (h : 0 < s.size) : ¬ s.toList = [] ∧ s.toList.isEmpty = false := by
  have : s.toList ≠ [] := by
    rw [ByteArray.toList_eq]
    intro e
    have := by_len s
    rw [show by_ s = [] from e] at this
    simp at this; omega
  exact ⟨this, by cases hq : s.toList with
    | nil => exact absurd hq this
    | cons c r => rfl⟩

theorem name_tw (s : ByteArray) (h1 : 1 ≤ s.size) : name (by_ s) = (letter (s[0]'(by omega)) && (decide (s.size ≤ 16) && decide (((by_ s).takeWhile inner).length = s.size))) := by
  have hf := tw_full (p := inner) (by_ s)
  rw [by_len] at hf
  rw [Bool.eq_iff_iff, name_iff]
  simp only [Bool.and_eq_true, decide_eq_true_eq, hf]
  constructor
  · rintro ⟨_, h2, h3, h4⟩
    refine ⟨h3 (by omega), h2, fun c hc => ?_⟩
    obtain ⟨i, hi, rfl⟩ := List.mem_iff_getElem.1 hc
    rw [by_len] at hi
    rw [by_get s i hi]; exact h4 i hi
  · rintro ⟨h2, h3, h4⟩
    refine ⟨h1, h3, fun _ => h2, fun i hi => ?_⟩
    rw [← by_get s i hi]; exact h4 _ (List.getElem_mem _)

set_option maxRecDepth 100000 in
theorem Name_any (s : ByteArray) (w : World) (hm : s.size ≤ maxLen) :
    Calls Tryz.prog 80 #[.string s] w fun e w' => e = .returned (.bool (name (by_ s))) ∧ w = w' := by
  unfold maxLen at hm
  by_cases h0 : s.size = 0
  · obtain rfl : s = ⟨#[]⟩ := by apply ByteArray.ext; exact Array.eq_empty_of_size_eq_zero h0
    clear h0 hm
    go_enter Tryz.func80, Tryz.ntmps80
    go_wp2_with fail
    go_ret
    exact ⟨rfl, rfl⟩
  · have hn := name_tw s (by omega)
    have hs : 0 < s.size := by omega
    obtain ⟨en, ee⟩ := text_not_empty s hs
    have cl := isLetter_any s[0]
    cases h1 : letter s[0] with
    | false =>
      rw [h1] at cl hn
      have HN := Lib.hid hn
      clear hn h1 h0
      go_enter Tryz.func80, Tryz.ntmps80
      go_wp2_with fail
      refine (cl _).mono ?_
      rintro e w' ⟨rfl, rfl⟩
      go_wp2_with fail
      go_ret
      exact ⟨by rw [HN.out]; rfl, rfl⟩
    | true =>
      rw [h1] at cl hn
      by_cases h16 : s.size ≤ 16
      · have d1 : decide ((s.size : Int) ≤ 16) = true := decide_eq_true (by omega)
        obtain ⟨n, hr⟩ : ∃ n, ((by_ s).takeWhile inner).length = n := ⟨_, rfl⟩
        have cr := run_any _ _ asks_inner s n w (by omega) hr
        rw [hr] at hn
        have hd : decide (n = s.size) = ((n : Int) == (s.size : Int)) := by rw [Bool.eq_iff_iff]; simp; omega
        rw [hd] at hn
        have HN := Lib.hid hn
        clear hn h1 h0 hr hd
        go_enter Tryz.func80, Tryz.ntmps80
        go_wp2_with fail
        refine (cl _).mono ?_
        rintro e w' ⟨rfl, rfl⟩
        go_wp2_with fail
        refine cr.mono ?_
        rintro e w' ⟨rfl, rfl⟩
        go_wp2_with fail
        go_ret
        exact ⟨by rw [HN.out]; simp [h16], rfl⟩
      · have d1 : decide ((s.size : Int) ≤ 16) = false := decide_eq_false (by omega)
        have HN := Lib.hid hn
        clear hn h1 h0
        go_enter Tryz.func80, Tryz.ntmps80
        go_wp2_with fail
        refine (cl _).mono ?_
        rintro e w' ⟨rfl, rfl⟩
        go_wp2_with fail
        go_ret
        exact ⟨by rw [HN.out]; simp [h16], rfl⟩

/-! ## One token -/
theorem Clone_any (s : ByteArray) (w : World) (h : s.size ≤ 1000000) : Calls Tryz.prog 76 #[.string s] w fun e w' => e = .returned (.string s) ∧ Below w.heap.size w w' := by
  have cs := fun w => Tryz.stringslite_Clone s w (by omega)
  clear h
  go_enter Tryz.func76, Tryz.ntmps76
  go_wp2_with fail
  refine (cs _).mono ?_
  rintro e w' ⟨rfl, hb⟩
  go_wp2_with fail
  go_ret
  exact ⟨rfl, hb⟩

theorem of_by {t : ByteArray} {l : List UInt8} (h : by_ t = l) : t = ⟨l.toArray⟩ := by
  apply ByteArray.ext; rw [← h]

/-- what cutOne tells of what stands at p: a token and the place behind it, or an error and its place -/
def OneRes (st : Step) (p : Nat) (w : World) (e : Ending) (w' : World) : Prop :=
  (match st with
  | .tok k n s len => e = .returned (.tuple #[.agg #[.int .i64 (k : Nat), .int .i64 (p : Nat), .int .i64 (n : Nat), .string ⟨s.toArray⟩], .int .i64 ((p + len : Nat) : Int), .int .i64 0])
  | .err er o => e = .returned (.tuple #[.agg #[.int .i64 0, .int .i64 0, .int .i64 0, .string ⟨#[]⟩], .int .i64 ((p + o : Nat) : Int), .int .i64 (er : Nat)])
  | _ => False) ∧ Below w.heap.size w w'

set_option maxRecDepth 100000 in
theorem cutName_any (s : ByteArray) (p : Nat) (w : World) (st : Step) (hm : s.size ≤ 65536) (hp : p < s.size) (hl : letter s[p] = true) (hst : Hid (Zm.step s[p] ((by_ s).drop (p + 1)) = st)) :
    Calls Tryz.prog 66 #[.string s, .int .i64 p] w fun e w' => OneRes st p w e w' := by
  obtain ⟨t, ht, hz, hs⟩ := slice_from s p (by omega)
  obtain ⟨n, hn⟩ : ∃ n, ((by_ t).takeWhile inner).length = n := ⟨_, rfl⟩
  have hnl : n ≤ s.size - p := by rw [← hn, ← hz, ← by_len]; exact takeWhile_le _
  have c1 := fun w => run_any _ _ asks_inner t n w (by omega) hn
  have hn1 : (((by_ s).drop (p + 1)).takeWhile inner).length + 1 = n := by
    rw [← hn, ht, drop_at s p hp, List.takeWhile_cons, if_pos (letter_inner hl)]; rfl
  have hst' := hst.out
  rw [step_letter hl, hn1] at hst'
  obtain ⟨q, hq⟩ : ∃ q, p + n = q := ⟨_, rfl⟩
  have hpq : p ≤ q := by omega
  have hqs : q ≤ s.size := by omega
  have S1 : IntKind.i64.wrap ((p : Int) + (n : Int)) = (q : Int) := by rw [IntWalk.i64_in _ (by omega)]; omega
  have S2 : IntKind.i64.wrap ((q : Int) - (p : Int)) = (n : Int) := by rw [IntWalk.i64_in _ (by omega)]; omega
  by_cases h16 : 16 < n
  · have d1 : decide ((16 : Int) < (n : Int)) = true := decide_eq_true (by omega)
    rw [if_pos h16] at hst'
    have Y : Hid (st = .err 6 0) := Lib.hid hst'.symm
    clear hst' hst hn hn1 hz ht hq h16
    go_enter Tryz.func66, Tryz.ntmps66
    go_wp2_with fail
    refine (c1 _).mono ?_
    rintro e w' ⟨rfl, rfl⟩
    go_wp2_with fail
    refine bodyPost_ret (v := .tuple #[.agg #[.int .i64 0, .int .i64 0, .int .i64 0, .string ⟨#[]⟩], .int .i64 (p : Int), .int .i64 6]) (by simp [results, Tryz.results66, go_sem]) rfl ?_
    rw [Y.out]
    exact ⟨rfl, balloc (Below.refl _ _) _⟩
  · have d1 : decide ((16 : Int) < (n : Int)) = false := decide_eq_false (by omega)
    rw [if_neg h16] at hst'
    obtain ⟨t2, ht2, hz2, hs2⟩ := slice_mid s p q hpq hqs
    have c2 := fun w => Clone_any t2 w (by omega)
    have Y : Hid (OneRes st p w (.returned (.tuple #[.agg #[.int .i64 1, .int .i64 p, .int .i64 0, .string t2], .int .i64 q, .int .i64 0])) w) := Lib.hid (by
      have : t2 = ⟨(s[p] :: ((by_ s).drop (p + 1)).takeWhile inner).toArray⟩ := of_by (by
        rw [ht2, drop_at s p hp, show q - p = (((by_ s).drop (p + 1)).takeWhile inner).length + 1 by omega, List.take_succ_cons, take_takeWhile])
      rw [← hst']
      exact ⟨by rw [this, ← hq]; rfl, Below.refl _ _⟩)
    clear hst' hst hn hn1 hz ht hq h16 hz2 ht2
    go_enter Tryz.func66, Tryz.ntmps66
    go_wp2_with fail
    refine (c1 _).mono ?_
    rintro e w' ⟨rfl, rfl⟩
    go_wp2_with fail
    refine (c2 _).mono ?_
    rintro e w1 ⟨rfl, hb⟩
    have B := bthen (balloc (Below.refl _ w) _) hb
    have X := (Box.new w #[.int .i64 0, .int .i64 0, .int .i64 0, .string ⟨#[]⟩] 72).kept hb
    obtain ⟨z, x0, x1, x2, x3, f0, f1, f2, f3⟩ := Box.four X
    clear hb X
    go_wp2_with fail
    refine bodyPost_ret (v := .tuple #[.agg #[.int .i64 1, .int .i64 p, .int .i64 0, .string t2], .int .i64 q, .int .i64 0]) (by simp [results, Tryz.results66, go_sem, x0, x1, x2, x3]) rfl ⟨Y.out.1, ?_⟩
    exact bset (bset (bset (bset B (Nat.le_refl _) _ _) (Nat.le_refl _) _ _) (Nat.le_refl _) _ _) (Nat.le_refl _) _ _

theorem decFrom_val (l : List UInt8) : ∀ acc : Nat, (∀ c ∈ l, digit c = true) → Lib.decFrom acc l = some (l.foldl (fun n c => 10 * n + (c.toNat - 48)) acc) := by
  induction l with
  | nil => intro acc _; rfl
  | cons c r ih =>
    intro acc h
    have hc := digit_bd (h c (by simp))
    rw [Lib.decFrom, Lib.digitVal, if_pos hc]
    show Lib.decFrom (acc * 10 + (c.toNat - 48)) r = _
    rw [ih _ (fun d hd => h d (by simp [hd])), List.foldl_cons, Nat.mul_comm acc 10]

theorem atoi_val (c : UInt8) (r : List UInt8) (h : ∀ d ∈ c :: r, digit d = true) : Lib.atoi (c :: r) = some ((val (c :: r) : Nat) : Int) := by
  have hc := digit_bd (h c (by simp))
  have n1 : (c == 45) = false := by rw [beq_eq_false_iff_ne]; intro e; subst e; exact absurd hc.1 (by decide)
  have n2 : (c == 43) = false := by rw [beq_eq_false_iff_ne]; intro e; subst e; exact absurd hc.1 (by decide)
  rw [Lib.atoi, n1, n2]
  simp only [Bool.false_eq_true, if_false, Lib.decNat, List.isEmpty_cons]
  rw [decFrom_val _ 0 h]; rfl

theorem Atoi_below (s : ByteArray) (n : Int) (hl : s.size ≤ 18) (h : Lib.atoi s.data.toList = some n) (w : World) :
    Calls Tryz.prog 77 #[.string s] w fun e w' => e = .returned (.tuple #[.int .i64 n, .nilIface]) ∧ Below w.heap.size w w' :=
  (Tryz.strconv_Atoi s n hl h w).mono fun e w' ⟨h1, t, h2⟩ => ⟨h1, by rw [h2]; exact Joins.below_bytesWorld _ _ _ _ (Nat.le_refl _)⟩

set_option maxRecDepth 100000 in
theorem cutNumber_any (s : ByteArray) (p : Nat) (w : World) (st : Step) (hm : s.size ≤ 65536) (hp : p < s.size) (hl : digit s[p] = true) (hst : Hid (Zm.step s[p] ((by_ s).drop (p + 1)) = st)) :
    Calls Tryz.prog 67 #[.string s, .int .i64 p] w fun e w' => OneRes st p w e w' := by
  obtain ⟨t, ht, hz, hs⟩ := slice_from s p (by omega)
  obtain ⟨n, hn⟩ : ∃ n, ((by_ t).takeWhile digit).length = n := ⟨_, rfl⟩
  have hnl : n ≤ s.size - p := by rw [← hn, ← hz, ← by_len]; exact takeWhile_le _
  have c1 := fun w => run_any _ _ asks_digit t n w (by omega) hn
  have hn1 : (((by_ s).drop (p + 1)).takeWhile digit).length + 1 = n := by
    rw [← hn, ht, drop_at s p hp, List.takeWhile_cons, if_pos hl]; rfl
  have hst' := hst.out
  rw [step_digit hl, hn1] at hst'
  obtain ⟨q, hq⟩ : ∃ q, p + n = q := ⟨_, rfl⟩
  have hpq : p ≤ q := by omega
  have hqs : q ≤ s.size := by omega
  have S1 : IntKind.i64.wrap ((p : Int) + (n : Int)) = (q : Int) := by rw [IntWalk.i64_in _ (by omega)]; omega
  have S2 : IntKind.i64.wrap ((q : Int) - (p : Int)) = (n : Int) := by rw [IntWalk.i64_in _ (by omega)]; omega
  by_cases h9 : 9 < n
  · have d1 : decide ((9 : Int) < (n : Int)) = true := decide_eq_true (by omega)
    rw [if_pos h9] at hst'
    have Y : Hid (st = .err 6 0) := Lib.hid hst'.symm
    clear hst' hst hn hn1 hz ht hq h9
    go_enter Tryz.func67, Tryz.ntmps67
    go_wp2_with fail
    refine (c1 _).mono ?_
    rintro e w' ⟨rfl, rfl⟩
    go_wp2_with fail
    refine bodyPost_ret (v := .tuple #[.agg #[.int .i64 0, .int .i64 0, .int .i64 0, .string ⟨#[]⟩], .int .i64 (p : Int), .int .i64 6]) (by simp [results, Tryz.results67, go_sem]) rfl ?_
    rw [Y.out]
    exact ⟨rfl, balloc (Below.refl _ _) _⟩
  have d1 : decide ((9 : Int) < (n : Int)) = false := decide_eq_false (by omega)
  rw [if_neg h9] at hst'
  have n9 : n ≤ 9 := by omega
  clear h9
  by_cases h48 : s[p].toNat = 48 ∧ 1 < n
  · have d2 : ((s[p].toNat : Int) == 48) = true := beq_iff_eq.2 (by omega)
    have d3 : decide ((1 : Int) < (n : Int)) = true := decide_eq_true (by omega)
    rw [if_pos h48] at hst'
    have Y : Hid (st = .err 5 0) := Lib.hid hst'.symm
    clear hst' hst hn hn1 hz ht hq h48
    go_enter Tryz.func67, Tryz.ntmps67
    go_wp2_with fail
    refine (c1 _).mono ?_
    rintro e w' ⟨rfl, rfl⟩
    go_wp2_with fail
    refine bodyPost_ret (v := .tuple #[.agg #[.int .i64 0, .int .i64 0, .int .i64 0, .string ⟨#[]⟩], .int .i64 (p : Int), .int .i64 5]) (by simp [results, Tryz.results67, go_sem]) rfl ?_
    rw [Y.out]
    exact ⟨rfl, balloc (Below.refl _ _) _⟩
  rw [if_neg h48] at hst'
  obtain ⟨x2, x3, d2, d3⟩ : ∃ x2 x3 : Bool, ((s[p].toNat : Int) == 48) = x2 ∧ decide ((1 : Int) < (n : Int)) = x3 := ⟨_, _, rfl, rfl⟩
  have h23 : x2 = false ∨ (x2 = true ∧ x3 = false) := by
    cases x2 with
    | false => exact .inl rfl
    | true => exact .inr ⟨rfl, by rw [← d3]; exact decide_eq_false (fun h => h48 ⟨by have := beq_iff_eq.1 d2; omega, by omega⟩)⟩
  clear h48
  by_cases hin : startsInner (((by_ s).drop (p + 1)).drop (((by_ s).drop (p + 1)).takeWhile digit).length) = true
  · rw [if_pos hin] at hst'
    have hqs2 : q < s.size := by
      rcases Nat.lt_or_ge q s.size with g | g
      · exact g
      · rw [List.drop_drop, List.drop_eq_nil_of_le (by rw [by_len]; omega)] at hin; cases hin
    have ci := fun w => inName_any s[q] w
    have hi : inner s[q] = true := by
      rw [List.drop_drop, show p + 1 + (((by_ s).drop (p + 1)).takeWhile digit).length = q by omega, drop_at s q hqs2] at hin; exact hin
    rw [hi] at ci
    have Y : Hid (st = .err 5 n) := Lib.hid hst'.symm
    have HQ := Lib.hid hq
    clear hst' hst hn hn1 hz ht hq hin hi
    rcases h23 with rfl | ⟨rfl, rfl⟩
    all_goals
      go_enter Tryz.func67, Tryz.ntmps67
      go_wp2_with fail
      refine (c1 _).mono ?_
      rintro e w' ⟨rfl, rfl⟩
      go_wp2_with fail
      refine (ci _).mono ?_
      rintro e w' ⟨rfl, rfl⟩
      go_wp2_with fail
      refine bodyPost_ret (v := .tuple #[.agg #[.int .i64 0, .int .i64 0, .int .i64 0, .string ⟨#[]⟩], .int .i64 (q : Int), .int .i64 5]) (by simp [results, Tryz.results67, go_sem]) rfl ?_
      rw [Y.out]
      exact ⟨by rw [← HQ.out]; rfl, balloc (Below.refl _ _) _⟩
  rw [if_neg hin] at hst'
  obtain ⟨t2, ht2, hz2, hs2⟩ := slice_mid s p q hpq hqs
  have hb2 : by_ t2 = s[p] :: ((by_ s).drop (p + 1)).takeWhile digit := by
    rw [ht2, drop_at s p hp, show q - p = (((by_ s).drop (p + 1)).takeWhile digit).length + 1 by omega, List.take_succ_cons, take_takeWhile]
  have hdg : ∀ d ∈ s[p] :: ((by_ s).drop (p + 1)).takeWhile digit, digit d = true := fun d hd => by
    rcases List.mem_cons.1 hd with rfl | hd
    · exact hl
    · exact mem_takeWhile _ d hd
  obtain ⟨v, hv⟩ : ∃ v : Nat, val (s[p] :: ((by_ s).drop (p + 1)).takeWhile digit) = v := ⟨_, rfl⟩
  have ca := fun w => Atoi_below t2 (v : Int) (by omega) (by rw [show t2.data.toList = by_ t2 from rfl, hb2, atoi_val _ _ hdg, hv]) w
  have hv9 : v ≤ 999999999 := by
    have h1 := val_lt _ hdg
    have h2 : 10 ^ (s[p] :: ((by_ s).drop (p + 1)).takeWhile digit).length ≤ 10 ^ 9 := Nat.pow_le_pow_right (by decide) (by simp; omega)
    rw [hv] at h1; omega
  have Y : Hid (OneRes st p w (.returned (.tuple #[.agg #[.int .i64 2, .int .i64 p, .int .i64 v, .string ⟨#[]⟩], .int .i64 q, .int .i64 0])) w) := Lib.hid (by
    rw [← hst', hv]
    exact ⟨by rw [← hq]; rfl, Below.refl _ _⟩)
  have hno : q < s.size → ∃ h : q < s.size, inner s[q] = false := fun g => ⟨g, by
    rw [List.drop_drop, show p + 1 + (((by_ s).drop (p + 1)).takeWhile digit).length = q by omega, drop_at s q g] at hin
    simpa [startsInner] using hin⟩
  clear hst' hst hn hn1 hz ht hq hin hz2 ht2 hb2 hdg hv
  by_cases hqs2 : q < s.size
  · obtain ⟨_, hi⟩ := hno hqs2
    have ci := fun w => inName_any s[q] w
    rw [hi] at ci
    clear hi hno
    rcases h23 with rfl | ⟨rfl, rfl⟩
    all_goals
      go_enter Tryz.func67, Tryz.ntmps67
      go_wp2_with fail
      refine (c1 _).mono ?_
      rintro e w' ⟨rfl, rfl⟩
      go_wp2_with fail
      refine (ci _).mono ?_
      rintro e w' ⟨rfl, rfl⟩
      go_wp2_with fail
      refine (ca _).mono ?_
      rintro e w1 ⟨rfl, hb⟩
      have B := bthen (balloc (Below.refl _ w) _) hb
      have X := (Box.new w #[.int .i64 0, .int .i64 0, .int .i64 0, .string ⟨#[]⟩] 72).kept hb
      obtain ⟨z, x0, x1, x2, x3, f0, f1, f2, f3⟩ := Box.four X
      clear hb X
      go_wp2_with fail
      refine bodyPost_ret (v := .tuple #[.agg #[.int .i64 2, .int .i64 p, .int .i64 v, .string ⟨#[]⟩], .int .i64 q, .int .i64 0]) (by simp [results, Tryz.results67, go_sem, x0, x1, x2, x3]) rfl ⟨Y.out.1, ?_⟩
      exact bset (bset (bset (bset B (Nat.le_refl _) _ _) (Nat.le_refl _) _ _) (Nat.le_refl _) _ _) (Nat.le_refl _) _ _
  · have d4 : decide ((q : Int) < (s.size : Int)) = false := decide_eq_false (by omega)
    clear hno
    rcases h23 with rfl | ⟨rfl, rfl⟩
    all_goals
      go_enter Tryz.func67, Tryz.ntmps67
      go_wp2_with fail
      refine (c1 _).mono ?_
      rintro e w' ⟨rfl, rfl⟩
      go_wp2_with fail
      refine (ca _).mono ?_
      rintro e w1 ⟨rfl, hb⟩
      have B := bthen (balloc (Below.refl _ w) _) hb
      have X := (Box.new w #[.int .i64 0, .int .i64 0, .int .i64 0, .string ⟨#[]⟩] 72).kept hb
      obtain ⟨z, x0, x1, x2, x3, f0, f1, f2, f3⟩ := Box.four X
      clear hb X
      go_wp2_with fail
      refine bodyPost_ret (v := .tuple #[.agg #[.int .i64 2, .int .i64 p, .int .i64 v, .string ⟨#[]⟩], .int .i64 q, .int .i64 0]) (by simp [results, Tryz.results67, go_sem, x0, x1, x2, x3]) rfl ⟨Y.out.1, ?_⟩
      exact bset (bset (bset (bset B (Nat.le_refl _) _ _) (Nat.le_refl _) _ _) (Nat.le_refl _) _ _) (Nat.le_refl _) _ _


theorem OneRes.shape {st : Step} {p : Nat} {w w' : World} {e : Ending} (h : OneRes st p w e w') :
    ∃ (a0 a1 a2 : Int) (a3 : ByteArray) (q er : Int), e = .returned (.tuple #[.agg #[.int .i64 a0, .int .i64 a1, .int .i64 a2, .string a3], .int .i64 q, .int .i64 er]) ∧ Below w.heap.size w w' := by
  obtain ⟨h, hb⟩ := h
  cases st with
  | skip n => cases h
  | wrong => cases h
  | err er o => exact ⟨_, _, _, _, _, _, h, hb⟩
  | tok k n s len => exact ⟨_, _, _, _, _, _, h, hb⟩

set_option maxRecDepth 100000 in
theorem cutOne_any (s : ByteArray) (p k : Nat) (w : World) (st : Step) (hm : s.size ≤ 65536) (hp : p < s.size) (hk : kindB s[p] = k) (hk0 : k ≠ 0) (hst : Hid (Zm.step s[p] ((by_ s).drop (p + 1)) = st)) :
    Calls Tryz.prog 45 #[.string s, .int .i64 p, .int .i64 (k : Nat)] w fun e w' => OneRes st p w e w' := by
  by_cases hk1 : k = 1
  · have cc := fun w => cutName_any s p w st hm hp (kind1 (hk.trans hk1)) hst
    clear hst hk hk0
    rw [hk1]
    go_enter Tryz.func45, Tryz.ntmps45
    go_wp2_with fail
    refine (cc _).mono ?_
    intro e w1 hr
    have HR := Lib.hid hr
    obtain ⟨a0, a1, a2, a3, qq, er, rfl, hb⟩ := hr.shape
    have B := bthen (balloc (Below.refl _ w) _) hb
    have X := (Box.new w #[.int .i64 0, .int .i64 0, .int .i64 0, .string ⟨#[]⟩] 72).kept hb
    obtain ⟨z, x0, x1, x2, x3, f0, f1, f2, f3⟩ := Box.four X
    clear hb X hr
    go_wp2_with fail
    refine bodyPost_ret (v := .tuple #[.agg #[.int .i64 a0, .int .i64 a1, .int .i64 a2, .string a3], .int .i64 qq, .int .i64 er]) (by simp [results, Tryz.results45, go_sem, x0, x1, x2, x3]) rfl ⟨HR.out.1, ?_⟩
    exact bset (bset (bset (bset B (Nat.le_refl _) _ _) (Nat.le_refl _) _ _) (Nat.le_refl _) _ _) (Nat.le_refl _) _ _
  by_cases hk2 : k = 2
  · have cc := fun w => cutNumber_any s p w st hm hp (kind2 (hk.trans hk2)) hst
    clear hst hk hk0 hk1
    rw [hk2]
    go_enter Tryz.func45, Tryz.ntmps45
    go_wp2_with fail
    refine (cc _).mono ?_
    intro e w1 hr
    have HR := Lib.hid hr
    obtain ⟨a0, a1, a2, a3, qq, er, rfl, hb⟩ := hr.shape
    have B := bthen (balloc (Below.refl _ w) _) hb
    have X := (Box.new w #[.int .i64 0, .int .i64 0, .int .i64 0, .string ⟨#[]⟩] 72).kept hb
    obtain ⟨z, x0, x1, x2, x3, f0, f1, f2, f3⟩ := Box.four X
    clear hb X hr
    go_wp2_with fail
    refine bodyPost_ret (v := .tuple #[.agg #[.int .i64 a0, .int .i64 a1, .int .i64 a2, .string a3], .int .i64 qq, .int .i64 er]) (by simp [results, Tryz.results45, go_sem, x0, x1, x2, x3]) rfl ⟨HR.out.1, ?_⟩
    exact bset (bset (bset (bset B (Nat.le_refl _) _ _) (Nat.le_refl _) _ _) (Nat.le_refl _) _ _) (Nat.le_refl _) _ _
  have Y : Hid (OneRes st p w (.returned (.tuple #[.agg #[.int .i64 (k : Nat), .int .i64 p, .int .i64 0, .string ⟨#[]⟩], .int .i64 ((p + 1 : Nat) : Int), .int .i64 0])) w) := Lib.hid (by
    rw [← hst.out, step_sign (by omega), hk]
    exact ⟨rfl, Below.refl _ _⟩)
  have d1 : ((k : Int) == 1) = false := beq_eq_false_iff_ne.2 (by omega)
  have d2 : ((k : Int) == 2) = false := beq_eq_false_iff_ne.2 (by omega)
  have S1 : IntKind.i64.wrap ((p : Int) + 1) = ((p + 1 : Nat) : Int) := by rw [IntWalk.i64_in _ (by omega)]; omega
  clear hst hk hk0 hk1 hk2
  go_enter Tryz.func45, Tryz.ntmps45
  go_wp2_with fail
  refine bodyPost_ret (v := .tuple #[.agg #[.int .i64 (k : Nat), .int .i64 p, .int .i64 0, .string ⟨#[]⟩], .int .i64 ((p + 1 : Nat) : Int), .int .i64 0]) (by simp [results, Tryz.results45, go_sem]) rfl ⟨Y.out.1, ?_⟩
  first
    | exact bset (bset (bset (bset (balloc (Below.refl _ _) _) (Nat.le_refl _) _ _) (Nat.le_refl _) _ _) (Nat.le_refl _) _ _) (Nat.le_refl _) _ _
    | exact balloc (Below.refl _ _) _

end Go.Proofs.YtabhbcedldjjjaaGreatDoor.Zp
