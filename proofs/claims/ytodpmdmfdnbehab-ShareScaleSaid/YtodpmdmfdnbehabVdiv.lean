/- What divide, Div and MulDiv of package wide come to. -/
import Derived.Test.YtodpmdmfdnbehabVmul
import Derived.Test.YtodpmdmfdnbehabVmath4
import Derived.Test.YtodpmdmfdnbehabUcode
namespace Go.Proofs.Ytodpmdmfdnbehab.Vc
set_option linter.unusedSimpArgs false
set_option linter.unusedVariables false
open Go.RowKit Go.Proofs.Ytodpmdmfdnbehab.Vm

set_option maxHeartbeats 400000

theorem divide_any (rest low b q r : Int) (w : World) (h0 : 0 ≤ rest) (h1 : rest < b) (h2 : 0 ≤ low) (h3 : low ≤ 18446744073709551615) (hb : b ≤ 9223372036854775807)
    (e : rest * 18446744073709551616 + low = q * b + r) (h4 : 0 ≤ r) (h5 : r < b) :
    Calls Try.prog 52 #[.int .u64 rest, .int .u64 low, .int .u64 b] w fun e w' => e = .returned (.tuple #[.int .u64 q, .int .u64 r]) ∧ w = w' := by
  obtain ⟨T, hT⟩ : ∃ s, rest * 18446744073709551616 + low = s := ⟨_, rfl⟩
  have st := di_start h0 h1 h2 h3
  rw [hT] at st e
  have E := Lib.hid e
  clear e h0 h1 h2 h3 hT
  go_enter Try.func52, Try.ntmps52
  go_wp2
  go_loop [0, 1, 6, 8] (fun x0 x1 x6 x8 => ∃ (k : Nat) (u l v : Int), k ≤ 64 ∧ x0 = .int .u64 u ∧ x1 = .int .u64 l ∧ x6 = .int .u64 v ∧ x8 = .int .i64 k ∧ DI T b k u l v) (fun _ _ _ x8 => 64 - (intOf x8).toNat)
  case atStart => exact ⟨0, rest, low, 0, by omega, rfl, rfl, rfl, rfl, st⟩
  case round =>
    obtain ⟨k, u, l, v, hk, rfl, rfl, rfl, rfl, hd⟩ := hrel
    by_cases hlt : k < 64
    · obtain ⟨b1, b2, b3, b4, b5, b6, bit, l', e1, e2, e3, e4, n1, n2⟩ := di_step hlt hd
      have o1 : bits .or .u64 (u * 2) bit = u * 2 + bit := or_bit (by omega) (by omega) (by omega) e2 e3
      have o2 : bits .or .u64 (v * 2) 1 = v * 2 + 1 := or_bit (by omega) (by omega) (by omega) (by omega) (by omega)
      clear st hd
      by_cases c : b ≤ u * 2 + bit
      · have N := Lib.hid (n1 c)
        clear n1 n2
        go_wp2
        go_round
        case rel => exact ⟨k + 1, _, _, _, by omega, rfl, rfl, rfl, by go_num, N.out⟩
        case measure => simp [intOf]; omega
      · have N := Lib.hid (n2 (by omega))
        clear n1 n2
        go_wp2
        go_round
        case rel => exact ⟨k + 1, _, _, _, by omega, rfl, rfl, rfl, by go_num, N.out⟩
        case measure => simp [intOf]; omega
    · obtain rfl : k = 64 := by omega
      obtain ⟨f1, f2, f3, f4, f5⟩ := di_end hd
      obtain ⟨rfl, rfl⟩ := div_same (f1.symm.trans E.out) f2 f3 h4 h5
      clear f1 E st hd
      go_wp2
      go_ret2
      exact ⟨rfl, rfl⟩

theorem below_drewN {B : Nat} {a w : World} (h : Below B a w) (n : Nat) : Below B a (w.drewN n) := ⟨h.os, h.tape, h.output, h.size, h.block⟩

theorem wholeDiv_to (a b q r : Int) (w : World) (ha : Fit1 a) (hb0 : 0 < b) (hb1 : b ≤ 9223372036854775807) (e1 : Hid (a / b = q)) (e2 : Hid (a % b = r)) :
    Calls Try.prog 51 #[.int .i64 a, .int .i64 b] w fun e w' => e = .returned (.tuple #[.int .i64 q, .int .i64 r, .int .i64 0]) ∧ Wc.Drew w w' := by
  have h := Wc.div_yes a b w ha ⟨by omega, hb1⟩ (by omega) (by omega)
  have h1 := Wm.dq_dr a b
  have h2 := Wm.dr_pos a hb0
  have h3 := div_same (q := a / b) (r := a % b) (q' := Wm.dq a b) (r' := Wm.dr a b) (b := b) (by rw [Int.mul_comm, Int.mul_ediv_add_emod, Int.mul_comm]; exact h1.symm) (Int.emod_nonneg _ (by omega)) (Int.emod_lt_of_pos _ hb0) h2.1 h2.2
  rw [← e1.out, ← e2.out, h3.1, h3.2]
  exact h

/-- what Div answers -/
def DivRes (x b h l r er : Int) : Prop := (b = 0 ∧ h = 0 ∧ l = 0 ∧ r = 0 ∧ er = 3) ∨ (b < 0 ∧ h = 0 ∧ l = 0 ∧ r = 0 ∧ er = 1) ∨ (0 < b ∧ er = 0 ∧ Bd h l ∧ num h l * b + r = x ∧ 0 ≤ r ∧ r < b)

theorem Div_any (h1 l1 b h l r er : Int) (w : World) (b1 : Bd h1 l1) (hb : Fit1 b) (R : DivRes (num h1 l1) b h l r er) :
    Calls Try.prog 25 #[.agg #[.int .i64 h1, .int .u64 l1], .int .i64 b] w fun e w' =>
      e = .returned (.tuple #[.agg #[.int .i64 h, .int .u64 l], .int .i64 r, .int .i64 er]) ∧ Below w.heap.size w w' := by
  rcases R with ⟨rfl, rfl, rfl, rfl, rfl⟩ | ⟨hn, rfl, rfl, rfl, rfl⟩ | ⟨hp, rfl, bd, e, r0, r1⟩
  · go_enter Try.func25, Try.ntmps25
    go_wp2
    refine bodyPost_ret (v := .tuple #[.agg #[.int .i64 0, .int .u64 0], .int .i64 0, .int .i64 3]) (by simp [results, Try.results25, go_sem]) rfl ⟨rfl, ?_⟩
    exact ((Below.refl _ _).alloc (Nat.le_refl _) _).alloc (by simp) _
  · have d1 : (b == 0) = false := beq_eq_false_iff_ne.2 (by omega)
    go_enter Try.func25, Try.ntmps25
    go_wp2
    refine bodyPost_ret (v := .tuple #[.agg #[.int .i64 0, .int .u64 0], .int .i64 0, .int .i64 1]) (by simp [results, Try.results25, go_sem]) rfl ⟨rfl, ?_⟩
    exact ((Below.refl _ _).alloc (Nat.le_refl _) _).alloc (by simp) _
  · have d1 : (b == 0) = false := beq_eq_false_iff_ne.2 (by omega)
    have d2 : decide (b < 0) = false := decide_eq_false (by omega)
    unfold Bd at b1
    unfold Fit1 at hb
    obtain ⟨a1, a2, a3, a4⟩ := b1
    obtain ⟨qh, hqh⟩ : ∃ s, h1 / b = s := ⟨_, rfl⟩
    obtain ⟨rh, hrh⟩ : ∃ s, h1 % b = s := ⟨_, rfl⟩
    have rh0 : 0 ≤ rh := by rw [← hrh]; exact Int.emod_nonneg _ (by omega)
    have rh1 : rh < b := by rw [← hrh]; exact Int.emod_lt_of_pos _ hp
    have rh2 : rh ≤ 9223372036854775807 := by omega
    have eh : qh * b + rh = h1 := by rw [← hqh, ← hrh, Int.mul_comm]; exact Int.mul_ediv_add_emod _ _
    have DM := div_two eh rh0 rh1 a3 a4 bd e r0 r1
    obtain ⟨rfl, DM⟩ := DM
    replace hqh := Lib.hid hqh
    replace hrh := Lib.hid hrh
    have hd := fun w => divide_any rh l1 b l r w rh0 rh1 a3 a4 hb.2 DM r0 r1
    have hw := fun w => wholeDiv_to h1 b qh rh w ⟨a1, a2⟩ hp hb.2 hqh hrh
    have r2 : r ≤ 9223372036854775807 := by omega
    obtain ⟨c1, c2, c3, c4⟩ := bd
    obtain ⟨hb1, hb2⟩ := hb
    clear e eh DM hqh hrh
    go_enter Try.func25, Try.ntmps25
    go_wp2_with fail
    refine (hw _).mono ?_
    rintro e w1 ⟨rfl, n, rfl⟩
    go_wp2_with fail
    refine (hd _).mono ?_
    rintro e w1 ⟨rfl, rfl⟩
    go_wp2
    refine bodyPost_ret (v := .tuple #[.agg #[.int .i64 qh, .int .u64 l], .int .i64 r, .int .i64 0]) (by simp [results, Try.results25, go_sem]) rfl ⟨rfl, ?_⟩
    exact ((below_drewN (((Below.refl _ _).alloc (Nat.le_refl _) _).alloc (by simp) _) _).setCell (by simp) _).setCell (by simp) _

/-- what MulDiv answers -/
def MDRes (x c q r er : Int) : Prop := (c = 0 ∧ q = 0 ∧ r = 0 ∧ er = 3) ∨ (c < 0 ∧ q = 0 ∧ r = 0 ∧ er = 1) ∨ (0 < c ∧ er = 2 ∧ q = 0 ∧ r = 0 ∧ ¬ Fit1 (x / c)) ∨ (0 < c ∧ er = 0 ∧ Fit1 q ∧ q = x / c ∧ r = x % c)

theorem MulDiv_any (a b c h l h2 l2 r2 er2 v er v2 r3 er3 : Int) (w : World) (ha : Fit1 a) (hb : Fit1 b) (hc : Fit1 c) (bd : Bd h l) (hn : num h l = a * b) (D : DivRes (num h l) c h2 l2 r2 er2) (bd2 : Bd h2 l2)
    (F : Res1 (num h2 l2) v er) (O : (er2 ≠ 0 ∧ v2 = 0 ∧ r3 = 0 ∧ er3 = er2) ∨ (er2 = 0 ∧ er = 2 ∧ v2 = 0 ∧ r3 = 0 ∧ er3 = 2) ∨ (er2 = 0 ∧ er = 0 ∧ v2 = v ∧ r3 = r2 ∧ er3 = 0)) :
    Calls Try.prog 13 #[.int .i64 a, .int .i64 b, .int .i64 c] w fun e w' =>
      e = .returned (.tuple #[.int .i64 v2, .int .i64 r3, .int .i64 er3]) ∧ Below w.heap.size w w' := by
  have cm := fun w => Mul_any a b h l w ha hb bd hn
  have cd := fun w => Div_any h l c h2 l2 r2 er2 w bd hc D
  have cf := fun w => Fit_any h2 l2 v er w bd2 F
  clear ha hb hc bd hn D bd2 F
  rcases O with ⟨o1, rfl, rfl, rfl⟩ | ⟨rfl, rfl, rfl, rfl, rfl⟩ | ⟨rfl, rfl, rfl, rfl, rfl⟩
  · have d1 : (er3 != 0) = true := bne_iff_ne.2 o1
    clear o1
    go_enter Try.func13, Try.ntmps13
    go_wp2_with fail
    refine (cm _).mono ?_
    rintro e w1 ⟨rfl, hb1⟩
    go_wp2_with fail
    refine (cd _).mono ?_
    rintro e w2 ⟨rfl, hb2⟩
    go_wp2
    go_ret3
    exact ⟨rfl, (hb1.trans (hb2.mono hb1.size)).alloc (Nat.le_trans hb1.size hb2.size) _⟩
  all_goals
    go_enter Try.func13, Try.ntmps13
    go_wp2_with fail
    refine (cm _).mono ?_
    rintro e w1 ⟨rfl, hb1⟩
    go_wp2_with fail
    refine (cd _).mono ?_
    rintro e w2 ⟨rfl, hb2⟩
    go_wp2_with fail
    refine (cf _).mono ?_
    rintro e w3 ⟨rfl, hb3⟩
    go_wp2
    go_ret3
    exact ⟨rfl, ((hb1.trans (hb2.mono hb1.size)).alloc (Nat.le_trans hb1.size hb2.size) _).trans (hb3.mono (by simp; exact Nat.le_succ_of_le (Nat.le_trans hb1.size hb2.size)))⟩

end Go.Proofs.Ytodpmdmfdnbehab.Vc
