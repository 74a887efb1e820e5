/- What ShareScale goes by: its three lists of weights; nothing is walked here. -/
import Derived.Test.YtodpmdmfdnbehabSlaw
import Derived.Test.YtodpmdmfdnbehabRowk3
namespace Go.Proofs.Ytodpmdmfdnbehab.Sl
set_option linter.unusedSimpArgs false
set_option linter.unusedVariables false
open Go.RowKit Go.Proofs.Ytodpmdmfdnbehab.Vm Go.Proofs.Ytodpmdmfdnbehab.Vc Go.Proofs.Ytodpmdmfdnbehab.Pr Go.Proofs.Ytodpmdmfdnbehab.Rk Go.Proofs.Ytodpmdmfdnbehab.Sm Go.Proofs.Ytodpmdmfdnbehab.Om Go.Proofs.Ytodpmdmfdnbehab.Os Go.Proofs.Ytodpmdmfdnbehab.Sr

theorem mem_ls {f : Nat → Int} {n : Nat} {z : Int} : z ∈ ls f n ↔ ∃ i, i < n ∧ f i = z := by
  unfold ls; simp
theorem sm_bd {f : Nat → Int} {B : Int} {n : Nat} (h : ∀ i, i < n → -B ≤ f i ∧ f i ≤ B) : -(B * n) ≤ sm f n ∧ sm f n ≤ B * n := by
  induction n with
  | zero => simp [sm]
  | succ n ih =>
    have a := ih (fun i hi => h i (by omega))
    have b := h n (by omega)
    have e : B * ((n + 1 : Nat) : Int) = B * n + B := by
      have : ((n + 1 : Nat) : Int) = (n : Int) + 1 := by omega
      rw [this, Int.mul_add, Int.mul_one]
    rw [e]
    have s : sm f (n + 1) = sm f n + f n := rfl
    omega
theorem ins_at {k : Nat} {v : Int} {f : Nat → Int} {n i : Nat} (hi : i < n + 1) (hk : k ≤ n) : ins k v f i = v ∨ ∃ j, j < n ∧ ins k v f i = f j := by
  unfold ins
  by_cases c : i < k
  · exact .inr ⟨i, by omega, by rw [if_pos c]⟩
  · by_cases d : i = k
    · exact .inl (by rw [if_neg c, if_pos d])
    · exact .inr ⟨i - 1, by omega, by rw [if_neg c, if_neg d]⟩
theorem ins_has {k : Nat} {v : Int} {f : Nat → Int} {n j : Nat} (hj : j < n) : ∃ i, i < n + 1 ∧ ins k v f i = f j := by
  by_cases c : j < k
  · exact ⟨j, by omega, by unfold ins; rw [if_pos c]⟩
  · exact ⟨j + 1, by omega, by unfold ins; rw [if_neg (by omega), if_neg (by omega)]; rfl⟩
/-- small weights, as many times greater, and with a nought put in: they may all be split, or none, for one reason -/
theorem all_three {x : Nat → Int} {n k : Nat} {c : Int} (hn : n ≤ 60) (hk : k ≤ n) (c0 : 0 < c) (c1 : c ≤ 65535) (hx : ∀ i, i < n → -2147483648 ≤ x i ∧ x i ≤ 2147483647) :
    (MayBe x n ∧ (∀ z ∈ ls x n, 0 ≤ z) ∧ 0 < (ls x n).sum ∧ Fit1 (ls x n).sum ∧ (∀ z ∈ ls (fun i => x i * c) n, 0 ≤ z) ∧ 0 < (ls (fun i => x i * c) n).sum ∧ Fit1 (ls (fun i => x i * c) n).sum ∧ (∀ z ∈ ls (ins k 0 x) (n + 1), 0 ≤ z) ∧ 0 < (ls (ins k 0 x) (n + 1)).sum ∧ Fit1 (ls (ins k 0 x) (n + 1)).sum) ∨
    ∃ er, er ≠ 0 ∧ AllRes (ls x n) 0 er ∧ AllRes (ls (fun i => x i * c) n) 0 er ∧ AllRes (ls (ins k 0 x) (n + 1)) 0 er := by
  have l1 : (ls x n).length ≤ 4096 := by rw [ls_len]; omega
  have l2 : (ls (fun i => x i * c) n).length ≤ 4096 := by rw [ls_len]; omega
  have l3 : (ls (ins k 0 x) (n + 1)).length ≤ 4096 := by rw [ls_len]; omega
  by_cases neg : ∃ i, i < n ∧ x i < 0
  · obtain ⟨i, hi, h⟩ := neg
    refine .inr ⟨1, by omega, .inr (.inl ⟨l1, ⟨x i, mem_ls.2 ⟨i, hi, rfl⟩, h⟩, rfl, rfl⟩), .inr (.inl ⟨l2, ⟨x i * c, mem_ls.2 ⟨i, hi, rfl⟩, Int.mul_neg_of_neg_of_pos h c0⟩, rfl, rfl⟩), ?_⟩
    obtain ⟨j, hj, e⟩ := ins_has (k := k) (v := 0) (f := x) hi
    exact .inr (.inl ⟨l3, ⟨x i, mem_ls.2 ⟨j, hj, e⟩, h⟩, rfl, rfl⟩)
  · have pos : ∀ i, i < n → 0 ≤ x i := fun i hi => by
      by_cases c : 0 ≤ x i
      · exact c
      · exact absurd ⟨i, hi, by omega⟩ neg
    have p1 : ∀ z ∈ ls x n, 0 ≤ z := fun z hz => by obtain ⟨i, hi, rfl⟩ := mem_ls.1 hz; exact pos i hi
    have p2 : ∀ z ∈ ls (fun i => x i * c) n, 0 ≤ z := fun z hz => by obtain ⟨i, hi, rfl⟩ := mem_ls.1 hz; exact Int.mul_nonneg (pos i hi) (by omega)
    have p3 : ∀ z ∈ ls (ins k 0 x) (n + 1), 0 ≤ z := fun z hz => by
      obtain ⟨i, hi, rfl⟩ := mem_ls.1 hz
      rcases ins_at (v := 0) (f := x) hi hk with e | ⟨j, hj, e⟩
      · rw [e]; omega
      · rw [e]; exact pos j hj
    have e1 : (ls x n).sum = sm x n := ls_sum x n
    have e2 : (ls (fun i => x i * c) n).sum = sm x n * c := by
      rw [ls_sum, sm_congr (g := fun i => c * x i) (fun i _ => Int.mul_comm _ _), sm_mul, Int.mul_comm]
    have e3 : (ls (ins k 0 x) (n + 1)).sum = sm x n := by rw [ls_sum, sm_ins k 0 x hk]; omega
    have b := sm_bd (f := x) (B := 2147483648) (n := n) (fun i hi => by have := hx i hi; omega)
    have s0 : 0 ≤ sm x n := by rw [← e1]; exact sum_nonneg p1
    have s1 : sm x n ≤ 2147483648 * 60 := by omega
    by_cases z : sm x n = 0
    · refine .inr ⟨3, by omega, .inr (.inr ⟨l1, p1, .inr (.inl ⟨by rw [e1, z], rfl, rfl⟩)⟩), .inr (.inr ⟨l2, p2, .inr (.inl ⟨by rw [e2, z, Int.zero_mul], rfl, rfl⟩)⟩), .inr (.inr ⟨l3, p3, .inr (.inl ⟨by rw [e3, z], rfl, rfl⟩)⟩)⟩
    · have s2 : 0 < sm x n := by omega
      have m0 : 0 < sm x n * c := Int.mul_pos s2 c0
      have m1 : sm x n * c ≤ 2147483648 * 60 * 65535 := Int.mul_le_mul s1 c1 (by omega) (by omega)
      refine .inl ⟨⟨pos, s2⟩, p1, by rw [e1]; exact s2, by rw [e1]; unfold Fit1; omega, p2, by rw [e2]; exact m0, by rw [e2]; unfold Fit1; omega, p3, by rw [e3]; exact s2, by rw [e3]; unfold Fit1; omega⟩
theorem prod_bd {u c : Int} (u0 : -2147483648 ≤ u) (u1 : u ≤ 2147483647) (c0 : 0 < c) (c1 : c ≤ 65535) : -140737488355328 ≤ u * c ∧ u * c ≤ 140737488355328 := by
  by_cases h : 0 ≤ u
  · have a : u * c ≤ 2147483647 * 65535 := Int.mul_le_mul u1 c1 (by omega) (by omega)
    have b : 0 ≤ u * c := Int.mul_nonneg h (by omega)
    omega
  · have a : -u * c ≤ 2147483648 * 65535 := Int.mul_le_mul (by omega) c1 (by omega) (by omega)
    have b : 0 ≤ -u * c := Int.mul_nonneg (by omega) (by omega)
    have e : -u * c = -(u * c) := Int.neg_mul _ _
    omega
theorem wt_ls {f : Nat → Int} {n i : Nat} (h : i < n) : wt (ls f n) i = f i := ls_at f h

end Go.Proofs.Ytodpmdmfdnbehab.Sl
