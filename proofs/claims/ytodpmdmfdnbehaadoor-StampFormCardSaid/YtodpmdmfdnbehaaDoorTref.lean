/- What Digits, like and number of the reference of layer 7 come to. -/
import Derived.Test.YtodpmdmfdnbehaaDoorEref
import Derived.Test.YtodpmdmfdnbehaaDoorTmath
import Derived.Laws.IdiomStrings
import Derived.Deep.QuietTactic
import Derived.BigQuiet
namespace Go.Proofs.YtodpmdmfdnbehaaDoor.Tr
set_option linter.unusedSimpArgs false
set_option linter.unusedVariables false
open Go.RowKit Go.Proofs.YtodpmdmfdnbehaaDoor.Bx Go.Proofs.YtodpmdmfdnbehaaDoor.Cm Go.Proofs.YtodpmdmfdnbehaaDoor.Em Go.Proofs.YtodpmdmfdnbehaaDoor.Er Go.Proofs.YtodpmdmfdnbehaaDoor.Tm

set_option maxHeartbeats 1000000

def rdig (n : Int) : Nat → List UInt8
  | 0 => []
  | j + 1 => dg (n / 10 ^ j % 10) :: rdig n j
theorem rdig_len (n : Int) (j : Nat) : (rdig n j).length = j := by
  induction j with
  | zero => rfl
  | succ j ih => simp [rdig, ih]
theorem rdig_next {n q : Int} {j : Nat} (h : q = n / 10 ^ j) : q / 10 = n / 10 ^ (j + 1) := by
  rw [h, Int.pow_succ]
  exact Int.ediv_ediv_of_nonneg (Int.le_of_lt (Int.pow_pos (by omega)))
theorem rdig_4 {n : Int} (h0 : 0 ≤ n) (h1 : n ≤ 9999) : (⟨(rdig n 4).toArray⟩ : ByteArray) = s4 n := by
  have e : rdig n 4 = [dg (n / 1000), dg (n / 100 % 10), dg (n / 10 % 10), dg (n % 10)] := by
    show [dg (n / 10 ^ 3 % 10), dg (n / 10 ^ 2 % 10), dg (n / 10 ^ 1 % 10), dg (n / 10 ^ 0 % 10)] = _
    rw [show n / 10 ^ 3 % 10 = n / 1000 by omega, show n / 10 ^ 2 % 10 = n / 100 % 10 by omega, show n / 10 ^ 1 % 10 = n / 10 % 10 by omega, show n / 10 ^ 0 % 10 = n % 10 by omega]
  rw [e]; rfl
theorem rdig_2 {n : Int} (h0 : 0 ≤ n) (h1 : n ≤ 99) : (⟨(rdig n 2).toArray⟩ : ByteArray) = s2 n := by
  have e : rdig n 2 = [dg (n / 10), dg (n % 10)] := by
    show [dg (n / 10 ^ 1 % 10), dg (n / 10 ^ 0 % 10)] = _
    rw [show n / 10 ^ 1 % 10 = n / 10 by omega, show n / 10 ^ 0 % 10 = n % 10 by omega]
  rw [e]; rfl
theorem rdig_1 {n : Int} (h0 : 0 ≤ n) (h1 : n ≤ 9) : (⟨(rdig n 1).toArray⟩ : ByteArray) = s1 n := by
  have e : rdig n 1 = [dg n] := by
    show [dg (n / 10 ^ 0 % 10)] = _
    rw [show n / 10 ^ 0 % 10 = n by omega]
  rw [e]; rfl

set_option maxRecDepth 100000 in
theorem rDigits_any (n : Int) (m : Nat) (w : World) (n0 : 0 ≤ n) (n1 : n ≤ 9999) (hm : m ≤ 4) :
    Calls Tryd.prog 57 #[.int .i64 n, .int .i64 m] w fun e w' => e = .returned (.string ⟨(rdig n m).toArray⟩) ∧ Below w.heap.size w w' := by
  go_enter Tryd.func57, Tryd.ntmps57
  go_wp2
  go_loopw [0, 5, 7] (fun N S J wr => ∃ (j : Nat) (q : Int), j ≤ m ∧ J = .int .i64 j ∧ N = .int .i64 q ∧ 0 ≤ q ∧ q ≤ 9999 ∧ Hid (q = n / 10 ^ j) ∧ (∃ x : ByteArray, S = .string x ∧ Hid (x = ⟨(rdig n j).toArray⟩)) ∧ Below w.heap.size w wr) (fun _ _ J _ => m - (intOf J).toNat)
  case atStart => exact ⟨0, n, by omega, rfl, rfl, n0, n1, Lib.hid (by simp), ⟨_, rfl, Lib.hid rfl⟩, Below.refl _ _⟩
  case round =>
    obtain ⟨j, q, j0, rfl, rfl, q0, q1, hq, ⟨x, rfl, hx⟩, hb⟩ := hrel
    by_cases hlt : j < m
    · obtain ⟨r, hr⟩ : ∃ r, q % 10 = r := ⟨_, rfl⟩
      have r0 : 0 ≤ r := by omega
      have r1 : r ≤ 9 := by omega
      have sz : x.size = j := by rw [hx.out]; show (rdig n j).toArray.size = j; simp [rdig_len]
      have hconv : (convert 50 9 (.slice (some ⟨wr.heap.size, 0, none⟩) 1 1)).run Tryd.prog (wr.alloc (.cells #[.int .u8 (48 + r)] 5)) = .ok (.string ⟨#[dg r]⟩) (wr.alloc (.cells #[.int .u8 (48 + r)] 5)) :=
        run_convert_bytes_back (P := Tryd.prog) (wr.alloc (.cells #[.int .u8 (48 + r)] 5)) 50 9 5 ⟨wr.heap.size, 0, none⟩ 1 [dg r] Tryd.underlying50 Tryd.underlying5 Tryd.underlying9 (fun j hj => by
          obtain rfl : j = 0 := by simpa using hj
          simp [go_sem, dg_val r0 r1])
      have e : Hid ((⟨#[dg r]⟩ : ByteArray) ++ x = ⟨(rdig n (j + 1)).toArray⟩) := Lib.hid (by
        rw [hx.out, ByteArray.mk_append_mk [dg r] (rdig n j)]
        show _ = (⟨(dg (n / 10 ^ j % 10) :: rdig n j).toArray⟩ : ByteArray)
        rw [← hq.out, hr]; rfl)
      go_wp2
      go_roundw
      case rel => exact ⟨j + 1, q / 10, by omega, by go_num, rfl, by omega, by omega, Lib.hid (rdig_next hq.out), ⟨_, rfl, e⟩, balloc hb _⟩
      case measure => simp [intOf]; omega
    · obtain rfl : j = m := by omega
      go_wp2
      go_ret
      exact ⟨congrArg (fun x => Ending.returned (.string x)) hx.out, hb⟩

theorem rdig4 (n : Int) (w : World) (h0 : 0 ≤ n) (h1 : n ≤ 9999) : Calls Tryd.prog 57 #[.int .i64 n, .int .i64 4] w fun e w' => e = .returned (.string (s4 n)) ∧ Below w.heap.size w w' := by
  rw [← rdig_4 h0 h1]; exact rDigits_any n 4 w h0 h1 (by omega)
theorem rdig2 (n : Int) (w : World) (h0 : 0 ≤ n) (h1 : n ≤ 99) : Calls Tryd.prog 57 #[.int .i64 n, .int .i64 2] w fun e w' => e = .returned (.string (s2 n)) ∧ Below w.heap.size w w' := by
  rw [← rdig_2 h0 h1]; exact rDigits_any n 2 w h0 (by omega) (by omega)
theorem rdig1 (n : Int) (w : World) (h0 : 0 ≤ n) (h1 : n ≤ 9) : Calls Tryd.prog 57 #[.int .i64 n, .int .i64 1] w fun e w' => e = .returned (.string (s1 n)) ∧ Below w.heap.size w w' := by
  rw [← rdig_1 h0 h1]; exact rDigits_any n 1 w h0 (by omega) (by omega)

/-- what a place comes to, in numbers: a digit where one is asked, another byte where that is asked; or not -/
def okN (c p : Int) : Prop := (p = 48 ∧ 48 ≤ c ∧ c ≤ 57) ∨ (p ≠ 48 ∧ c = p)
theorem okN_of {c p : UInt8} (h : okAt c p) : (p.toNat = 48 ∧ 48 ≤ c.toNat ∧ c.toNat ≤ 57) ∨ (p.toNat ≠ 48 ∧ c.toNat = p.toNat) := by
  rcases h with ⟨rfl, h⟩ | ⟨h, rfl⟩
  · exact .inl ⟨rfl, h⟩
  · exact .inr ⟨fun e => h (UInt8.toNat_inj.1 e), rfl⟩
theorem okN_not {c p : UInt8} (h : ¬ okAt c p) : (p.toNat = 48 ∧ c.toNat < 48) ∨ (p.toNat = 48 ∧ 48 ≤ c.toNat ∧ 57 < c.toNat) ∨ (p.toNat ≠ 48 ∧ c.toNat ≠ p.toNat) := by
  by_cases e : p.toNat = 48
  · have hp : p = 48 := UInt8.toNat_inj.1 e
    have : ¬ (48 ≤ c.toNat ∧ c.toNat ≤ 57) := fun k => h (.inl ⟨hp, k⟩)
    omega
  · exact .inr (.inr ⟨e, fun k => h (.inr ⟨fun x => e (by rw [x]; rfl), UInt8.toNat_inj.1 k⟩)⟩)

set_option maxRecDepth 100000 in
theorem rlike_yes (s f : ByteArray) (w : World) (hf : f.size = 10) (L : Like s f) :
    Calls Tryd.prog 60 #[.string s, .string f] w fun e w' => e = .returned (.bool true) ∧ Below w.heap.size w w' := by
  have hs : s.size = 10 := L.1.trans hf
  have HL := Lib.hid L.2
  clear L
  go_enter Tryd.func60, Tryd.ntmps60
  go_wp2
  go_loopw [13] (fun I wr => ∃ pos : Nat, pos ≤ 10 ∧ I = .int .i64 pos ∧ Below w.heap.size w wr) (fun I _ => 10 - (intOf I).toNat)
  case atStart => exact ⟨0, by omega, rfl, Below.refl _ _⟩
  case round =>
    obtain ⟨pos, hp, rfl, hb⟩ := hrel
    by_cases hlt : pos < 10
    · have hps : pos < s.size := by omega
      have hpf : pos < f.size := by omega
      have pp : (0 : Int) ≤ (pos : Int) := by omega
      have bp : (pos : Int) < 10 := by omega
      have ok := okN_of (HL.out pos hps hpf)
      rcases ok with ⟨e0, e1, e2⟩ | ⟨e0, e1⟩
      · have d0 : ((f[pos].toNat : Int) == 48) = true := beq_iff_eq.2 (by omega)
        have d1 : decide ((48 : Int) ≤ (s[pos].toNat : Int)) = true := decide_eq_true (by omega)
        have d2 : decide ((s[pos].toNat : Int) ≤ 57) = true := decide_eq_true (by omega)
        clear e0 e1 e2
        go_wp2
        go_roundw
        case rel => exact ⟨pos + 1, by omega, by go_num, hb⟩
        case measure => simp [intOf]; omega
      · have d0 : ((f[pos].toNat : Int) == 48) = false := beq_eq_false_iff_ne.2 (by omega)
        have d1 : ((s[pos].toNat : Int) != (f[pos].toNat : Int)) = false := by rw [e1]; simp
        clear e0 e1
        go_wp2_with fail
        go_quiet (fail)
        go_wp2
        go_roundw
        case rel => exact ⟨pos + 1, by omega, by go_num, bdrewN hb _⟩
        case measure => simp [intOf]; omega
    · obtain rfl : pos = 10 := by omega
      go_wp2
      go_ret
      exact ⟨rfl, hb⟩

end Go.Proofs.YtodpmdmfdnbehaaDoor.Tr
