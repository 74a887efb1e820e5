/- Plain facts on sums; nothing of the program. -/
import Derived.Test.YtfjckgnclhpmcaaDoorVmath4
namespace Go.Proofs.YtfjckgnclhpmcaaDoor.Vm
set_option linter.unusedSimpArgs false
set_option linter.unusedVariables false
open Go.RowKit (wrap32 wrap64)

/-- the words a1, a0 are the sum of the first k of l, but for whole times 2^128 -/
def SI (l : List Int) (k : Nat) (a0 a1 : Int) : Prop :=
  0 ≤ a0 ∧ a0 ≤ 18446744073709551615 ∧ 0 ≤ a1 ∧ a1 ≤ 18446744073709551615 ∧ ∃ m : Int, num a1 a0 = (l.take k).sum + m * 340282366920938463463374607431768211456

theorem si_start (l : List Int) : SI l 0 0 0 := ⟨by omega, by omega, by omega, by omega, 0, by simp [num]⟩

theorem take_sum (l : List Int) (k : Nat) (h : k < l.length) : (l.take (k + 1)).sum = (l.take k).sum + l.getD k 0 := by
  rw [List.take_succ_eq_append_getElem h, List.sum_append_int]
  simp [List.getD, h]

theorem si_step {l : List Int} {k : Nat} {a0 a1 n h lo m r0 r1 : Int} (hk : k < l.length) (s : SI l k a0 a1) (hn : l.getD k 0 = n) (f : Fit1 n)
    (e1 : n / 9223372036854775808 = h) (e0 : n % 18446744073709551616 = lo) (e2 : h % 18446744073709551616 = m)
    (e3 : (a0 + lo) % 18446744073709551616 = r0) (e4 : (a1 + m + (a0 + lo) / 18446744073709551616) % 18446744073709551616 = r1) : SI l (k + 1) r0 r1 := by
  obtain ⟨h0, h1, h2, h3, t, ht⟩ := s
  refine ⟨by omega, by omega, by omega, by omega, t - (a1 + m + (a0 + lo) / 18446744073709551616) / 18446744073709551616 + (if n < 0 then 1 else 0), ?_⟩
  rw [take_sum l k hk, hn]
  unfold num at ht ⊢
  unfold Fit1 at f
  generalize (l.take k).sum = S at *
  split <;> omega

theorem sum_bound (l : List Int) (h : ∀ z ∈ l, Fit1 z) : -(l.length * 9223372036854775808 : Int) ≤ l.sum ∧ l.sum ≤ l.length * 9223372036854775808 := by
  induction l with
  | nil => simp
  | cons z t ih =>
    have h1 := ih (fun y hy => h y (List.mem_cons_of_mem _ hy))
    have h2 := h z (List.mem_cons_self)
    unfold Fit1 at h2
    rw [List.sum_cons, List.length_cons]
    omega

theorem si_end {l : List Int} {k : Nat} {a0 a1 h : Int} (hk : l.length ≤ k) (s : SI l k a0 a1) (hf : ∀ z ∈ l, Fit1 z) (hl : (l.length : Int) ≤ 9223372036854775807) (e : wrap64 a1 = h) : num h a0 = l.sum ∧ Bd h a0 := by
  obtain ⟨h0, h1, h2, h3, t, ht⟩ := s
  rw [List.take_of_length_le hk] at ht
  have b := sum_bound l hf
  unfold wrap64 at e
  unfold num at *
  unfold Bd
  generalize l.sum = S at *
  omega

end Go.Proofs.YtfjckgnclhpmcaaDoor.Vm
