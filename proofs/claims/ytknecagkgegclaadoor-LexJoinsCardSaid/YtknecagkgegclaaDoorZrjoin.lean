/- What Join of the reference of layer 8 comes to. -/
import Derived.Test.YtknecagkgegclaaDoorZlexb
import Derived.StillTailTactics
namespace Go.Proofs.YtknecagkgegclaaDoor.Zr
set_option linter.unusedSimpArgs false
set_option linter.unusedVariables false
open Go.RowKit Go.Proofs.YtknecagkgegclaaDoor.Zm Go.Proofs.YtknecagkgegclaaDoor.Zk Go.Proofs.YtknecagkgegclaaDoor.Zp Go.Proofs.YtknecagkgegclaaDoor.Zl Go.Proofs.YtknecagkgegclaaDoor.Bn

set_option maxHeartbeats 1000000

/-- the last m decimal digits of n -/
def lastDigits : Nat → Nat → List UInt8
  | _, 0 => []
  | n, m + 1 => lastDigits (n / 10) m ++ [UInt8.ofNat (48 + n % 10)]

theorem lastDigits_dec (n : Nat) : lastDigits n (Lib.decDigits n).length = Lib.decDigits n := by
  induction n using Nat.strongRecOn with
  | _ n ih =>
    rw [dec_eq]
    by_cases h : n < 10
    · rw [if_pos h]
      simp [lastDigits, Nat.mod_eq_of_lt h]
    · rw [if_neg h, List.length_append]
      show lastDigits n ((Lib.decDigits (n / 10)).length + 1) = _
      rw [lastDigits, ih _ (by omega)]

theorem lastDigits_len (n m : Nat) : (lastDigits n m).length = m := by
  induction m generalizing n with
  | zero => rfl
  | succ m ih => simp [lastDigits, ih]

/-- the digits that are there behind k rounds: those of n, the rest of which is n / 10^k -/
theorem lastDigits_more (n m : Nat) : ∀ k, lastDigits n (k + m) = lastDigits (n / 10 ^ k) m ++ lastDigits n k := by
  intro k
  induction k generalizing n with
  | zero => simp [lastDigits]
  | succ k ih =>
    rw [show k + 1 + m = (k + m) + 1 by omega, lastDigits, ih, lastDigits, Nat.div_div_eq_div_mul, Nat.pow_succ, Nat.mul_comm 10 (10 ^ k), List.append_assoc]

set_option maxRecDepth 100000 in
theorem rName_same (s : ByteArray) (w : World) (hm : s.size ≤ maxLen) :
    Calls Tryd.prog 20 #[.string s] w fun e w' => e = .returned (.bool (name (by_ s))) ∧ w = w' := by
  unfold maxLen at hm
  have hn := name_iff s
  obtain ⟨v, hv⟩ : ∃ v, name (by_ s) = v := ⟨_, rfl⟩
  rw [hv] at hn ⊢
  clear hv
  by_cases h1 : s.size < 1
  · obtain rfl := bool_no hn (by omega)
    have d1 : decide ((s.size : Int) < 1) = true := decide_eq_true (by omega)
    clear h1 hn
    go_enter Tryd.func20, Tryd.ntmps20
    go_wp2
    go_ret
    exact ⟨rfl, rfl⟩
  have d1 : decide ((s.size : Int) < 1) = false := decide_eq_false (by omega)
  by_cases h2 : 16 < s.size
  · obtain rfl := bool_no hn (by omega)
    have d2 : decide ((16 : Int) < (s.size : Int)) = true := decide_eq_true (by omega)
    clear h1 hn h2
    go_enter Tryd.func20, Tryd.ntmps20
    go_wp2
    go_ret
    exact ⟨rfl, rfl⟩
  have d2 : decide ((16 : Int) < (s.size : Int)) = false := decide_eq_false (by omega)
  have hs : 0 < s.size := by omega
  have cl := rletter s[0]
  cases h3 : letter s[0] with
  | false =>
    obtain rfl := bool_no hn (fun h => by have := h.2.2.1 hs; rw [h3] at this; cases this)
    rw [h3] at cl
    clear h1 hn h2 h3
    go_enter Tryd.func20, Tryd.ntmps20
    go_wp2_with fail
    refine (cl _).mono ?_
    rintro e w' ⟨rfl, rfl⟩
    go_wp2_with fail
    go_ret
    exact ⟨rfl, rfl⟩
  | true =>
    rw [h3] at cl
    have HN := Lib.hid hn
    have H3 := Lib.hid h3
    have s16 : s.size ≤ 16 := by omega
    clear h1 hn h2 h3
    go_enter Tryd.func20, Tryd.ntmps20
    go_wp2_with fail
    refine (cl _).mono ?_
    rintro e w' ⟨rfl, rfl⟩
    go_wp2_with fail
    go_loopw [20] (fun I wr => ∃ pos : Nat, pos ≤ s.size ∧ I = .int .i64 pos ∧ w = wr ∧ Hid (∀ i (h : i < s.size), i < pos → inner s[i] = true)) (fun I _ => 20 - (intOf I).toNat)
    case atStart => exact ⟨0, by omega, rfl, rfl, Lib.hid (fun i h h0 => by omega)⟩
    case round =>
      obtain ⟨pos, hp, rfl, rfl, hi⟩ := hrel
      have pp : (0 : Int) ≤ (pos : Int) := by omega
      by_cases hlt : pos < s.size
      · have ci := rinner s[pos]
        cases h4 : inner s[pos] with
        | false =>
          rw [h4] at ci
          have hv : Hid (v = false) := Lib.hid (bool_no HN.out (fun h => by have := h.2.2.2 pos hlt; rw [h4] at this; cases this))
          clear h4
          go_wp2_with fail
          refine (ci _).mono ?_
          rintro e w' ⟨rfl, rfl⟩
          go_wp2_with fail
          go_ret
          exact ⟨by rw [hv.out]; rfl, rfl⟩
        | true =>
          rw [h4] at ci
          have HI : Hid (∀ i (h : i < s.size), i < pos + 1 → inner s[i] = true) := Lib.hid (fun i h hi' => by
            rcases Nat.lt_or_ge i pos with g | g
            · exact hi.out i h g
            · obtain rfl : i = pos := by omega
              exact h4)
          clear h4
          go_wp2_with fail
          refine (ci _).mono ?_
          rintro e w' ⟨rfl, rfl⟩
          go_wp2_with fail
          go_roundw
          case rel => exact ⟨pos + 1, by omega, by go_num, by simp, HI⟩
          case measure => simp [intOf]; omega
      · have hv : Hid (v = true) := Lib.hid (HN.out.2 ⟨hs, s16, fun _ => H3.out, fun i h => hi.out i h (by omega)⟩)
        obtain rfl : pos = s.size := by omega
        go_wp2_with fail
        go_ret
        exact ⟨by rw [hv.out]; rfl, rfl⟩


set_option maxRecDepth 100000 in
theorem rDigits8 (n m : Nat) (w : World) (n1 : n ≤ 9223372036854775807) (hm : m ≤ 30) :
    Calls Tryd.prog 82 #[.int .i64 n, .int .i64 m] w fun e w' => e = .returned (.string ⟨(lastDigits n m).toArray⟩) ∧ Below w.heap.size w w' := by
  go_enter Tryd.func82, Tryd.ntmps82
  go_wp2
  go_loopw [0, 5, 7] (fun N S J wr => ∃ (j : Nat) (q : Int), j ≤ m ∧ J = .int .i64 j ∧ N = .int .i64 q ∧ 0 ≤ q ∧ q ≤ 9223372036854775807 ∧ Hid (q = ((n / 10 ^ j : Nat) : Int)) ∧ (∃ x : ByteArray, S = .string x ∧ Hid (x = ⟨(lastDigits n j).toArray⟩)) ∧ Below w.heap.size w wr) (fun _ _ J _ => m - (intOf J).toNat)
  case atStart => exact ⟨0, n, by omega, rfl, rfl, by omega, by omega, Lib.hid (by simp), ⟨_, rfl, Lib.hid rfl⟩, Below.refl _ _⟩
  case round =>
    obtain ⟨j, q, j0, rfl, rfl, q0, q1, hq, ⟨x, rfl, hx⟩, hb⟩ := hrel
    by_cases hlt : j < m
    · obtain ⟨r, hr⟩ : ∃ r : Nat, (n / 10 ^ j) % 10 = r := ⟨_, rfl⟩
      have r1 : r ≤ 9 := by omega
      have hri : q % 10 = (r : Int) := by have := hq.out; omega
      have sz : x.size = j := by rw [hx.out]; show (lastDigits n j).toArray.size = j; simp [lastDigits_len]
      obtain ⟨c, hc⟩ : ∃ c : UInt8, UInt8.ofNat (48 + r) = c := ⟨_, rfl⟩
      have hdv : (c.toNat : Int) = 48 + (r : Int) := by rw [← hc, ofNat_toNat (by omega)]; omega
      have hconv : (convert 55 9 (.slice (some ⟨wr.heap.size, 0, none⟩) 1 1)).run Tryd.prog (wr.alloc (.cells #[.int .u8 (48 + (r : Int))] 5)) = .ok (.string ⟨#[c]⟩) (wr.alloc (.cells #[.int .u8 (48 + (r : Int))] 5)) :=
        run_convert_bytes_back (P := Tryd.prog) (wr.alloc (.cells #[.int .u8 (48 + (r : Int))] 5)) 55 9 5 ⟨wr.heap.size, 0, none⟩ 1 [c] Tryd.underlying55 Tryd.underlying5 Tryd.underlying9 (fun j hj => by
          obtain rfl : j = 0 := by simpa using hj
          simp [go_sem, hdv])
      have e : Hid ((⟨#[c]⟩ : ByteArray) ++ x = ⟨(lastDigits n (j + 1)).toArray⟩) := Lib.hid (by
        rw [hx.out, ByteArray.mk_append_mk [c] (lastDigits n j), lastDigits_more n 1 j]
        show _ = (⟨((([] : List UInt8) ++ [UInt8.ofNat (48 + n / 10 ^ j % 10)]) ++ lastDigits n j).toArray⟩ : ByteArray)
        rw [hr, hc]; rfl)
      have hq2 : Hid (q / 10 = ((n / 10 ^ (j + 1) : Nat) : Int)) := Lib.hid (by
        have := hq.out
        have e2 : n / 10 ^ (j + 1) = (n / 10 ^ j) / 10 := by rw [Nat.div_div_eq_div_mul, Nat.pow_succ]
        rw [e2]; omega)
      clear hr hc
      obtain ⟨cz, hcz⟩ : ∃ cz : ByteArray, (⟨#[c]⟩ : ByteArray) = cz := ⟨_, rfl⟩
      rw [hcz] at hconv e
      have zz : cz.size = 1 := by rw [← hcz]; rfl
      clear hcz hdv
      go_wp2
      go_roundw
      case rel => exact ⟨j + 1, q / 10, by omega, by go_num, rfl, by omega, by omega, hq2, ⟨_, rfl, e⟩, balloc hb _⟩
      case measure => simp [intOf]; omega
    · obtain rfl : j = m := by omega
      go_wp2
      go_ret
      exact ⟨congrArg (fun x => Ending.returned (.string x)) hx.out, hb⟩

theorem dec_len19 (n : Nat) (h : n ≤ 9223372036854775807) : (Lib.decDigits n).length ≤ 19 := dec_len (by omega) (by omega)

set_option maxRecDepth 100000 in
theorem rDecimal (n : Nat) (w : World) (n1 : n ≤ 9223372036854775807) :
    Calls Tryd.prog 70 #[.int .i64 n] w fun e w' => e = .returned (.string ⟨(Lib.decDigits n).toArray⟩) ∧ Below w.heap.size w w' := by
  have h19 := dec_len19 n n1
  obtain ⟨L, hL⟩ : ∃ L, (Lib.decDigits n).length = L := ⟨_, rfl⟩
  have cd := fun w => rDigits8 n L w n1 (by omega)
  rw [hL] at h19
  have HL := Lib.hid hL
  have HD : Hid (lastDigits n L = Lib.decDigits n) := Lib.hid (by rw [← hL]; exact lastDigits_dec n)
  clear hL
  go_enter Tryd.func70, Tryd.ntmps70
  go_wp2_with fail
  go_loop [3, 4] (fun M N => ∃ (j : Nat) (q : Int), 1 ≤ j ∧ j ≤ L ∧ M = .int .i64 j ∧ N = .int .i64 q ∧ 0 ≤ q ∧ q ≤ 9223372036854775807 ∧ Hid (j + (Lib.decDigits q.toNat).length = L + 1)) (fun M _ => 30 - (intOf M).toNat)
  case atStart => exact ⟨1, n, by omega, by rw [← HL.out, dec_eq]; split <;> simp, rfl, rfl, by omega, by omega, Lib.hid (by rw [Int.toNat_natCast, HL.out]; omega)⟩
  case round =>
    obtain ⟨j, q, j1, jL, rfl, rfl, q0, q1, hq⟩ := hrel
    by_cases h10 : 10 ≤ q
    · have d1 : decide ((10 : Int) ≤ q) = true := decide_eq_true (by omega)
      have hq' := hq.out
      rw [dec_eq, if_neg (by omega), List.length_append, List.length_singleton] at hq'
      have h1 : 1 ≤ (Lib.decDigits (q.toNat / 10)).length := by rw [dec_eq]; split <;> simp
      have HQ : Hid (j + 1 + (Lib.decDigits (q / 10).toNat).length = L + 1) := Lib.hid (by rw [show (q / 10).toNat = q.toNat / 10 by omega]; omega)
      have hjL : j + 1 ≤ L := by omega
      clear hq hq' h1
      go_wp2_with fail
      go_round
      case rel => exact ⟨j + 1, q / 10, by omega, hjL, by go_num, rfl, by omega, by omega, HQ⟩
      case measure => simp [intOf]; omega
    · have d1 : decide ((10 : Int) ≤ q) = false := decide_eq_false (by omega)
      have hq' := hq.out
      rw [dec_eq, if_pos (by omega), List.length_singleton] at hq'
      obtain rfl : j = L := by omega
      clear hq hq'
      go_wp2_with fail
      refine (cd _).mono ?_
      rintro e w1 ⟨rfl, hb⟩
      go_wp2_with fail
      go_ret
      exact ⟨by rw [HD.out]; rfl, hb⟩

end Go.Proofs.YtknecagkgegclaaDoor.Zr
