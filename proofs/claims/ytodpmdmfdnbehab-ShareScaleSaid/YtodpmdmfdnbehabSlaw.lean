/- What the laws of layer 4 go by: Split at whatever weights, two lists held against each other, live. -/
import Derived.Test.YtodpmdmfdnbehabSprog2
import Derived.Test.YtodpmdmfdnbehabFrame
namespace Go.Proofs.Ytodpmdmfdnbehab.Sl
set_option linter.unusedSimpArgs false
set_option linter.unusedVariables false
open Go.RowKit Go.Proofs.Ytodpmdmfdnbehab.Vm Go.Proofs.Ytodpmdmfdnbehab.Vc Go.Proofs.Ytodpmdmfdnbehab.Pr Go.Proofs.Ytodpmdmfdnbehab.Rk Go.Proofs.Ytodpmdmfdnbehab.Sm Go.Proofs.Ytodpmdmfdnbehab.Om Go.Proofs.Ytodpmdmfdnbehab.Os Go.Proofs.Ytodpmdmfdnbehab.Sr

set_option maxHeartbeats 1000000

theorem rdk {w w1 : World} {A : Option Addr} {zs : List Int} (h : Rd w w.heap.size A zs) (hb : Below w.heap.size w w1) : Rd w1 w1.heap.size A zs := by
  rcases h with h | ⟨b, off, hA, hlt, hc⟩
  · exact .inl h
  · exact .inr ⟨b, off, hA, Nat.lt_of_lt_of_le hlt hb.size, fun i hi => (hb.cell (p := ⟨b, off + i, none⟩) hlt).trans (hc i hi)⟩
theorem rdk' {w w0 w1 : World} {A : Option Addr} {zs : List Int} (h : Rd w w.heap.size A zs) (hb : Below w.heap.size w w1) : Rd w1 w1.heap.size A zs := rdk h hb

/-- the first n values of o -/
def ls (o : Nat → Int) (n : Nat) : List Int := (List.range n).map o
theorem ls_len (o : Nat → Int) (n : Nat) : (ls o n).length = n := by simp [ls]
theorem ls_at (o : Nat → Int) {n i : Nat} (h : i < n) : (ls o n).getD i 0 = o i := by simp [ls, List.getD, h]
theorem ls_sum (o : Nat → Int) (n : Nat) : (ls o n).sum = sm o n := by
  have h := sm_list (ls o n)
  rw [ls_len] at h
  rw [← h]
  exact sm_congr (fun i hi => ls_at o hi)
theorem row_rd {W : World} {g n : Nat} {o : Nat → Int} (r : Row W g n o) : Rd W W.heap.size (some ⟨g, 0, none⟩) (ls o n) :=
  .inr ⟨g, 0, rfl, r.lt, fun i hi => by
    rw [ls_len] at hi
    rw [ls_at o hi, Nat.zero_add]; exact r.c i hi⟩

/-- why weights may not be -/
theorem all_err {zs : List Int} {v er : Int} (R : AllRes zs v er) : (er = 0 ∧ zs.length ≤ 4096 ∧ (∀ z ∈ zs, 0 ≤ z) ∧ 0 < zs.sum ∧ Fit1 zs.sum ∧ v = zs.sum) ∨ (er ≠ 0 ∧ v = 0) := by
  rcases R with ⟨_, h, rfl⟩ | ⟨_, _, h, rfl⟩ | ⟨h1, h2, ⟨_, h, rfl⟩ | ⟨_, h, rfl⟩ | ⟨h3, h4, h5, rfl⟩⟩
  · exact .inr ⟨by decide, h⟩
  · exact .inr ⟨by decide, h⟩
  · exact .inr ⟨by decide, h⟩
  · exact .inr ⟨by decide, h⟩
  · exact .inl ⟨rfl, h1, h2, h3, h4, h5⟩

theorem split_no (A : Option Addr) (n cap : Nat) (zs : List Int) (a v er : Int) (w : World) (hn : zs.length = n) (hm2 : (n : Int) ≤ 9223372036854775807) (hf : ∀ z ∈ zs, Fit1 z) (hr : Rd w w.heap.size A zs) (R : AllRes zs v er) (h : er ≠ 0) :
    Calls Try.prog 6 #[.int .i64 a, .slice A n cap] w fun e w' => e = .returned (.tuple #[.slice none 0 0, .int .i64 er]) ∧ Below w.heap.size w w' := by
  have ct := together_any A n cap zs v er w hn hm2 hf hr R
  have d : (er != 0) = true := bne_iff_ne.2 h
  clear R h hf hr hn
  go_enter Try.func6, Try.ntmps6
  go_wp2_with fail
  refine ct.mono ?_
  rintro e w1 ⟨rfl, hb1⟩
  go_wp2
  go_ret2
  exact ⟨rfl, hb1⟩

theorem Same_yes (A B : Option Addr) (n c1 c2 : Nat) (f : Nat → Int) (w : World) (hm : (n : Int) ≤ 9223372036854775807) (hA : n = 0 ∨ ∃ b off, A = some ⟨b, off, none⟩ ∧ ∀ i, i < n → w.cell? ⟨b, off + i, none⟩ = some (.int .i64 (f i)))
    (hB : n = 0 ∨ ∃ b off, B = some ⟨b, off, none⟩ ∧ ∀ i, i < n → w.cell? ⟨b, off + i, none⟩ = some (.int .i64 (f i))) :
    Calls Try.prog 10 #[.slice A n c1, .slice B n c2] w fun e w' => e = .returned (.bool true) ∧ Below w.heap.size w w' := by
  have HA := Lib.hid hA
  have HB := Lib.hid hB
  clear hA hB
  go_enter Try.func10, Try.ntmps10
  go_wp2
  go_loopw [13] (fun x wr => ∃ k : Nat, k ≤ n ∧ x = .int .i64 k ∧ ∃ q, wr = w.drewN q) (fun x _ => n - (intOf x).toNat)
  case atStart => exact ⟨0, by omega, rfl, 0, rfl⟩
  case round =>
    obtain ⟨k, hk, rfl, q, rfl⟩ := hrel
    by_cases hlt : k < n
    · obtain ⟨b1, o1, rfl, h1⟩ := HA.out.resolve_left (by omega)
      obtain ⟨b2, o2, rfl, h2⟩ := HB.out.resolve_left (by omega)
      have k1 := h1 k hlt
      have k2 := h2 k hlt
      generalize f k = v at k1 k2
      have pp : (0 : Int) ≤ (k : Int) := by omega
      have bp : (k : Int) < (n : Int) := by omega
      clear h1 h2
      go_wp2_with fail
      go_quiet (fail)
      go_wp2
      go_roundw
      case rel => exact ⟨k + 1, by omega, by go_num, _, rfl⟩
      case measure => simp [intOf] <;> omega
    · obtain rfl : k = n := by omega
      go_wp2
      go_ret
      exact ⟨rfl, bdrewN (Below.refl _ w) _⟩

theorem split_congr {a : Int} {w w' : Nat → Int} {n : Nat} {o : Nat → Int} (h : ∀ i, i < n → w i = w' i) (s : IsSplit a w n o) : IsSplit a w' n o := by
  have t : tot w n = tot w' n := sm_congr h
  have q : ∀ i, i < n → quo a w n i = quo a w' n i := fun i hi => by unfold quo; rw [t, h i hi]
  have r : ∀ i, i < n → rem a w n i = rem a w' n i := fun i hi => by unfold rem; rw [t, h i hi]
  have l : left a w n = left a w' n := by unfold left; rw [t, sm_congr r]
  obtain ⟨C, hC, e⟩ := s
  refine ⟨C, ⟨by rw [← l]; exact hC.1, fun i k hi hk ci ck => ?_⟩, fun i hi => by rw [← q i hi]; exact e i hi⟩
  have := hC.2 i k hi hk ci ck
  unfold Ahead at this ⊢
  rw [← r i hi, ← r k hk]; exact this

theorem split_fit {a : Int} {w : Nat → Int} {n : Nat} {o : Nat → Int} (fa : Fit1 a) (h : MayBe w n) (s : IsSplit a w n o) : ∀ i, i < n → Fit1 (o i) := by
  obtain ⟨C, hC, e⟩ := s
  intro i hi
  have q := quo_fit fa h hi
  rw [e i hi]
  cases ci : C i
  · simpa [one] using q
  · have u := quo_up fa h hi (more_pos h hC hi ci)
    unfold Fit1 at *; simp [one]; omega
theorem ls_fit {o : Nat → Int} {n : Nat} (h : ∀ i, i < n → Fit1 (o i)) : ∀ z ∈ ls o n, Fit1 z := by
  intro z hz
  unfold ls at hz
  obtain ⟨i, hi, rfl⟩ := List.mem_map.1 hz
  exact h i (List.mem_range.1 hi)

theorem slive_ok (w : World) : Calls Try.prog 5 #[] w fun e w' => e = .returned (.bool true) ∧ Below w.heap.size w w' := by
  have E := split_even (a := 10) (x := 1) (by decide) (k := 3) (by decide)
  have hr : Rd (w.alloc (.cells #[.int .i64 1, .int .i64 1, .int .i64 1] 2)) (w.alloc (.cells #[.int .i64 1, .int .i64 1, .int .i64 1] 2)).heap.size (some ⟨w.heap.size, 0, none⟩) [1, 1, 1] :=
    .inr ⟨w.heap.size, 0, rfl, by simp, fun i hi => by
      match i, hi with
      | 0, _ => simp [go_sem]
      | 1, _ => simp [go_sem]
      | 2, _ => simp [go_sem]⟩
  have cs := split_go (some ⟨w.heap.size, 0, none⟩) 3 3 [1, 1, 1] 10 _ rfl (by decide) (by decide) (by unfold Fit1; omega) (by intro z hz; simp at hz; subst hz; unfold Fit1; omega) hr (by intro z hz; simp at hz; subst hz; decide) (by decide) (by unfold Fit1; decide)
  have U : ∀ o, IsSplit 10 (wt [1, 1, 1]) 3 o → o 0 = 4 ∧ o 1 = 3 ∧ o 2 = 3 := by
    intro o ho
    have ho2 : IsSplit 10 (fun _ => 1) 3 o := split_congr (fun i hi => by
      match i, hi with
      | 0, _ => rfl
      | 1, _ => rfl
      | 2, _ => rfl) ho
    have u := split_unique ho2 E.2
    exact ⟨(u 0 (by omega)).trans (by decide), (u 1 (by omega)).trans (by decide), (u 2 (by omega)).trans (by decide)⟩
  have HU := Lib.hid U
  clear E hr U
  go_enter Try.func5, Try.ntmps5
  go_wp2_with fail
  refine cs.mono ?_
  rintro e w1 ⟨g, o, rfl, ro, gl, ho, hb⟩
  have U := HU.out o ho
  have B1 := bthen (balloc (Below.refl _ w) _) hb
  have S := Same_yes (some ⟨g, 0, none⟩) (some ⟨w1.heap.size, 0, none⟩) 3 3 3 o (w1.alloc (.cells #[.int .i64 4, .int .i64 3, .int .i64 3] 2)) (by omega)
    (.inr ⟨g, 0, rfl, fun i hi => by rw [Nat.zero_add]; exact (ro.kept (balloc (Below.refl _ _) _)).c i hi⟩)
    (.inr ⟨w1.heap.size, 0, rfl, fun i hi => by
      match i, hi with
      | 0, _ => rw [U.1]; simp [go_sem]
      | 1, _ => rw [U.2.1]; simp [go_sem]
      | 2, _ => rw [U.2.2]; simp [go_sem]⟩)
  clear U ho hb ro
  go_wp2_with fail
  refine S.mono ?_
  rintro e w2 ⟨rfl, hb2⟩
  have B2 := bthen (balloc B1 _) hb2
  go_wp2
  go_ret
  exact ⟨rfl, B2⟩

end Go.Proofs.Ytodpmdmfdnbehab.Sl
