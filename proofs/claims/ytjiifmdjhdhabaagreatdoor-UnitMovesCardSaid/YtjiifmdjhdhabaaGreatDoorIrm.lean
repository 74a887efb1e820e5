/- How the document's own row of spans goes on, period by period; plain mathematics, nothing of the program. -/
import Derived.Test.YtjiifmdjhdhabaaGreatDoorJP
namespace Go.Proofs.YtjiifmdjhdhabaaGreatDoor.Am
set_option linter.unusedSimpArgs false
set_option linter.unusedVariables false
open Go.Proofs.YtjiifmdjhdhabaaGreatDoor.Cm Go.Proofs.YtjiifmdjhdhabaaGreatDoor.Em

/-- the quarter of the next period, 5 behind the last one -/
def qnx (n k : Int) : Int := if k + 1 = n then 5 else quar n (k + 2)
/-- how many units of a level end within the first k periods -/
def spM (n L : Int) (k : Nat) : Int :=
  if L = 1 then (if (k : Int) = n then 1 else 0) else if L = 2 then (if (k : Int) = n then 2 else (quar n ((k : Int) + 1) - 1) / 2) else if L = 3 then (if (k : Int) = n then 4 else quar n ((k : Int) + 1) - 1) else k
theorem quar_cases (n p : Int) : (p ≤ n / 4 ∧ quar n p = 1) ∨ (¬ p ≤ n / 4 ∧ p ≤ n * 2 / 4 ∧ quar n p = 2) ∨ (¬ p ≤ n / 4 ∧ ¬ p ≤ n * 2 / 4 ∧ p ≤ n * 3 / 4 ∧ quar n p = 3) ∨ (¬ p ≤ n / 4 ∧ ¬ p ≤ n * 2 / 4 ∧ ¬ p ≤ n * 3 / 4 ∧ quar n p = 4) := by
  unfold quar
  by_cases a : p ≤ n / 4
  · rw [if_pos a]; exact .inl ⟨a, rfl⟩
  · rw [if_neg a]
    by_cases b : p ≤ n * 2 / 4
    · rw [if_pos b]; exact .inr (.inl ⟨a, b, rfl⟩)
    · rw [if_neg b]
      by_cases d : p ≤ n * 3 / 4
      · rw [if_pos d]; exact .inr (.inr (.inl ⟨a, b, d, rfl⟩))
      · rw [if_neg d]; exact .inr (.inr (.inr ⟨a, b, d, rfl⟩))
section
variable {c : CalZ} {y : Int} {k : Nat}
theorem spm_zero (h : KindOk c) (L : Int) : spM (per c) L 0 = 0 := by
  have q := quar_cases (per c) 1
  have pe := per_is h
  have p0 : ¬ ((0 : Nat) : Int) = per c := by omega
  have f : quar (per c) 1 = 1 := by generalize per c = n at *; rcases pe with rfl | rfl | rfl | rfl <;> omega
  unfold spM
  rw [if_neg p0, if_neg p0, if_neg p0, show ((0 : Nat) : Int) + 1 = 1 from rfl, f]
  split
  · rfl
  · split
    · rfl
    · split
      · rfl
      · rfl
theorem spm_last (h : KindOk c) (L : Int) (L0 : 1 ≤ L) (L4 : L ≤ 4) (hk : (k : Int) = per c) : spM (per c) L k = ucount c y L := by
  unfold spM ucount
  have l : L = 1 ∨ L = 2 ∨ L = 3 ∨ L = 4 := by omega
  rcases l with rfl | rfl | rfl | rfl
  · simp [hk]
  · simp [hk]
  · simp [hk]
  · simp [hk]
theorem spm1 (n : Int) (k : Nat) : spM n 1 k = if (k : Int) = n then 1 else 0 := by simp [spM]
theorem spm2 (n : Int) (k : Nat) : spM n 2 k = if (k : Int) = n then 2 else (quar n ((k : Int) + 1) - 1) / 2 := by simp [spM]
theorem spm3 (n : Int) (k : Nat) : spM n 3 k = if (k : Int) = n then 4 else quar n ((k : Int) + 1) - 1 := by simp [spM]
theorem spm_le (h : KindOk c) (L : Int) (L0 : 1 ≤ L) (L4 : L ≤ 4) (hk : (k : Int) ≤ per c) : 0 ≤ spM (per c) L k ∧ spM (per c) L k ≤ ucount c y L := by
  have q := quar_cases (per c) ((k : Int) + 1)
  have l : L = 1 ∨ L = 2 ∨ L = 3 ∨ L = 4 := by omega
  rcases l with rfl | rfl | rfl | rfl
  · rw [spm1, show ucount c y 1 = 1 from rfl]; split <;> omega
  · rw [spm2, show ucount c y 2 = 2 from rfl]; split <;> omega
  · rw [spm3, show ucount c y 3 = 4 from rfl]; split <;> omega
  · rw [show ucount c y 4 = per c from rfl, show spM (per c) 4 k = k by simp [spM]]; omega
theorem sp_1 (h : KindOk c) (hk : (k : Int) < per c) : ((k : Int) + 1 = per c ∧ spM (per c) 1 (k + 1) = spM (per c) 1 k + 1 ∧ uend c y 1 (spM (per c) 1 k + 1) = pend c y ((k : Int) + 1)) ∨ ((k : Int) + 1 < per c ∧ spM (per c) 1 (k + 1) = spM (per c) 1 k) := by
  have e : ((k + 1 : Nat) : Int) = (k : Int) + 1 := by omega
  rw [spm1, spm1, e, if_neg (show ¬ (k : Int) = per c by omega)]
  by_cases q : (k : Int) + 1 = per c
  · rw [if_pos q]
    refine .inl ⟨q, rfl, ?_⟩
    rw [q]; rfl
  · rw [if_neg q]
    exact .inr ⟨by omega, rfl⟩
theorem sp_3 (h : KindOk c) (hk : (k : Int) < per c) :
    (quar (per c) ((k : Int) + 1) < qnx (per c) k ∧ spM (per c) 3 (k + 1) = spM (per c) 3 k + 1 ∧ uend c y 3 (spM (per c) 3 k + 1) = pend c y ((k : Int) + 1)) ∨ (¬ quar (per c) ((k : Int) + 1) < qnx (per c) k ∧ (k : Int) + 1 < per c ∧ spM (per c) 3 (k + 1) = spM (per c) 3 k) := by
  have e : ((k + 1 : Nat) : Int) = (k : Int) + 1 := by omega
  have q1 := quar_cases (per c) ((k : Int) + 1)
  have q2 := quar_cases (per c) ((k : Int) + 2)
  have ue : ∀ i, uend c y 3 i = pend c y (per c * i / 4) := fun i => by simp [uend]
  unfold qnx
  rw [spm3, spm3, e, if_neg (show ¬ (k : Int) = per c by omega), ue, show (k : Int) + 1 + 1 = (k : Int) + 2 by omega]
  have pe := per_is h
  by_cases q : (k : Int) + 1 = per c
  · rw [if_pos q, if_pos q]
    refine .inl ⟨by omega, by omega, ?_⟩
    congr 1
    generalize per c = n at *; rcases pe with rfl | rfl | rfl | rfl <;> omega
  · rw [if_neg q, if_neg q]
    by_cases r : quar (per c) ((k : Int) + 1) < quar (per c) ((k : Int) + 2)
    · refine .inl ⟨r, by generalize per c = n at *; rcases pe with rfl | rfl | rfl | rfl <;> omega, ?_⟩
      congr 1
      generalize per c = n at *; rcases pe with rfl | rfl | rfl | rfl <;> omega
    · exact .inr ⟨r, by omega, by generalize per c = n at *; rcases pe with rfl | rfl | rfl | rfl <;> omega⟩
theorem sp_2 (h : KindOk c) (hk : (k : Int) < per c) :
    (quar (per c) ((k : Int) + 1) < qnx (per c) k ∧ quar (per c) ((k : Int) + 1) % 2 = 0 ∧ spM (per c) 2 (k + 1) = spM (per c) 2 k + 1 ∧ uend c y 2 (spM (per c) 2 k + 1) = pend c y ((k : Int) + 1)) ∨ (¬ (quar (per c) ((k : Int) + 1) < qnx (per c) k ∧ quar (per c) ((k : Int) + 1) % 2 = 0) ∧ (k : Int) + 1 < per c ∧ spM (per c) 2 (k + 1) = spM (per c) 2 k) := by
  have e : ((k + 1 : Nat) : Int) = (k : Int) + 1 := by omega
  have q1 := quar_cases (per c) ((k : Int) + 1)
  have q2 := quar_cases (per c) ((k : Int) + 2)
  have ue : ∀ i, uend c y 2 i = pend c y (per c * (2 * i) / 4) := fun i => by simp [uend]
  unfold qnx
  rw [spm2, spm2, e, if_neg (show ¬ (k : Int) = per c by omega), ue, show (k : Int) + 1 + 1 = (k : Int) + 2 by omega]
  have pe := per_is h
  by_cases q : (k : Int) + 1 = per c
  · rw [if_pos q, if_pos q]
    have f : quar (per c) ((k : Int) + 1) = 4 := by generalize per c = n at *; rcases pe with rfl | rfl | rfl | rfl <;> omega
    rw [f]
    refine .inl ⟨by omega, by omega, by omega, ?_⟩
    congr 1
    generalize per c = n at *; rcases pe with rfl | rfl | rfl | rfl <;> omega
  · rw [if_neg q, if_neg q]
    by_cases r : quar (per c) ((k : Int) + 1) < quar (per c) ((k : Int) + 2) ∧ quar (per c) ((k : Int) + 1) % 2 = 0
    · refine .inl ⟨r.1, r.2, by generalize per c = n at *; rcases pe with rfl | rfl | rfl | rfl <;> omega, ?_⟩
      congr 1
      generalize per c = n at *; rcases pe with rfl | rfl | rfl | rfl <;> omega
    · exact .inr ⟨r, by omega, by generalize per c = n at *; rcases pe with rfl | rfl | rfl | rfl <;> omega⟩
theorem sp_4 (hk : (k : Int) < per c) : spM (per c) 4 (k + 1) = spM (per c) 4 k + 1 ∧ uend c y 4 (spM (per c) 4 k + 1) = pend c y ((k : Int) + 1) := by
  have ue : ∀ i, uend c y 4 i = pend c y i := fun i => by simp [uend]
  have e : ∀ j : Nat, spM (per c) 4 j = j := fun j => by simp [spM]
  rw [e, e, ue]
  exact ⟨by omega, rfl⟩
/-- the weeks of a period -/
theorem sp_5 (h : KindOk c) (y0 : 1601 ≤ y) (y1 : y ≤ 9997) (hk : (k : Int) < per c) (j : Int) (j0 : 0 ≤ j) (j1 : j ≤ wks c y ((k : Int) + 1)) :
    (j < wks c y ((k : Int) + 1) ∧ pend c y k + 7 * j + 1 ≤ pend c y ((k : Int) + 1) ∧ uend c y 5 (wsum c y k + j) = pend c y k + 7 * j ∧ uend c y 5 (wsum c y k + j + 1) = min (pend c y k + 7 * j + 1 + 6) (pend c y ((k : Int) + 1))) ∨ (j = wks c y ((k : Int) + 1) ∧ ¬ pend c y k + 7 * j + 1 ≤ pend c y ((k : Int) + 1) ∧ wsum c y (k + 1) = wsum c y k + j ∧ uend c y 5 (wsum c y (k + 1)) = pend c y ((k : Int) + 1)) := by
  have pe := perN_is h
  have w := wks_bd h y0 y1 (p := (k : Int) + 1) (by omega) (by omega)
  rw [show (k : Int) + 1 - 1 = k by omega] at w
  have ws : wsum c y (k + 1) = wsum c y k + wks c y ((k : Int) + 1) := rfl
  have ue : ∀ i, uend c y 5 i = wend c y i := fun i => by simp [uend]
  have t := wsum_step h y0 y1 (a := k + 1) (b := perN c) (by omega) (by omega)
  have t0 := wsum_step h y0 y1 (a := 0) (b := k) (by omega) (by omega)
  have z : wsum c y 0 = 0 := rfl
  simp only [ue]
  by_cases q : j < wks c y ((k : Int) + 1)
  · refine .inl ⟨q, by omega, ?_, ?_⟩
    · by_cases r : j = 0
      · subst r
        cases k with
        | zero => rw [z, show (0 : Int) + 0 = 0 from rfl, wend_zero h y0 y1]; simp
        | succ i =>
          have w2 := wks_bd h y0 y1 (p := (i : Int) + 1) (by omega) (by omega)
          rw [show (i : Int) + 1 - 1 = i by omega] at w2
          have ws2 : wsum c y (i + 1) = wsum c y i + wks c y ((i : Int) + 1) := rfl
          rw [Int.add_zero, wend_at h y0 y1 (p := i) (by omega) (by omega) (Int.le_refl _), show ((i + 1 : Nat) : Int) = (i : Int) + 1 by omega]
          omega
      · rw [wend_at h y0 y1 (p := k) (by omega) (by omega) (by omega)]
        omega
    · rw [wend_at h y0 y1 (p := k) (by omega) (by omega) (by omega)]
      omega
  · have r : j = wks c y ((k : Int) + 1) := by omega
    refine .inr ⟨r, by omega, by omega, ?_⟩
    rw [wend_at h y0 y1 (p := k) (by omega) (by omega) (Int.le_refl _)]
    omega
end

end Go.Proofs.YtjiifmdjhdhabaaGreatDoor.Am
